/-
  What the calls of look's closures come to. Conditions: those of each theorem.
-/
import Derived.Test.YthjklbonebnekaaGreatGbq
set_option maxRecDepth 8000
set_option maxHeartbeats 4000000
namespace Go.Proofs.YthjklbonebnekaaGreat
open Go Go.RowKit
theorem tch1_PT (s:Se) (x:BitVec 64) (B1:Nat) (w:World)  (k1:SBox B1 s w) :
  Calls Tryz.prog 183 #[.int .u64 (U x),.pointer (some ⟨B1,0,none⟩)] w (RetP (PT kR (tch1T s.p s.th x)) noF w):=by
 have qk1:=heap_lt k1
 have ⟨z0,z1,z2,z3,z4,z5,z6,z7,zl⟩:=SBox.plc k1
 replace k1:=Lib.hid k1
 go_enter Tryz.func183,Tryz.ntmps183
 go_upto_region 1 with (fail)
 have ⟨hE,hb0,hW⟩:=al1 w (.cells #[.int .i64 0,.int .u64 0,.int .i64 0,.int .i64 0,.int .u64 0,.int .u64 0,.nilFunc,.pointer none] 99)
 generalize (w.alloc (.cells #[.int .i64 0,.int .u64 0,.int .i64 0,.int .i64 0,.int .u64 0,.int .u64 0,.nilFunc,.pointer none] 99)) = W at hE hb0 hW ⊢
 replace k1:=(hE.block _ (heap_lt k1.out)).trans k1.out
 clear z0 z1 z2 z3 z4 z5 z6 z7 zl
 have ⟨z0,z1,z2,z3,z4,z5,z6,z7,zl⟩:=SBox.plc k1
 replace hE:=Lib.hid hE
 replace hb0:=Lib.hid hb0
 replace k1:=Lib.hid k1
 refine wp_region_mix (fun w' => ∃ s,w' = over W s) [(0,[0,1]),(1,[2]),(1,[3]),(2,[4])] (by kernel_rfl) (by kernel_rfl) (over_of (ext_drew (ext_refl W))) ?_
 simp only [pieces,pickL,List.map_cons,List.map_nil,List.getD_cons_zero,List.getD_cons_succ]
 refine mix_reads ?_
 repeat (go_big_quiet_step (fail))
 refine wpQuiet_nil (mix_acts ?_)
 have HX0:=Lib.hid (ext_drew (ext_refl W))
 go_wp2_with (go_at_call 114;refine (tells_PT x _).mono ?_;rintro e w4 ⟨v1,F1,rfl,hx,hp1,hbn1,hsub1⟩;refine Hid.out ?_)
 refine Lib.hid ?_
 replace hE:=hE.out
 replace hb0:=hb0.out
 replace k1:=k1.out
 have hn1:¬ F1 (w.heap.size):=fun h => (hsub1 _ h).elim (fun h => h) fun h => by have:=heap_lt hb0;have:=HX0.out.size;omega
 have hs1:∀ j,F1 j → noF j ∨ w.heap.size ≤ j:=fun j hj => (hsub1 j hj).imp_right fun h => Nat.le_trans (Nat.le_trans hE.size HX0.out.size) h
 have HX1:=Lib.hid (ext_trans HX0.out hx)
 replace hb0:=(HX1.out.block _ (heap_lt hb0)).trans hb0
 replace k1:=(HX1.out.block _ (heap_lt k1)).trans k1
 replace hE:=ext_trans hE HX1.out
 clear hx hsub1
 replace hE:=Lib.hid hE
 replace hb0:=Lib.hid hb0
 replace k1:=Lib.hid k1
 replace hp1:=Lib.hid hp1
 replace hbn1:=Lib.hid hbn1
 replace hs1:=Lib.hid hs1
 replace hn1:=Lib.hid hn1
 go_wp2
 refine mixQ_mk (over_of HX1.out) (mix_acts ?_)
 go_wp2_with (go_at_call 184;refine Hid.out ?_)
 refine Lib.hid ?_
 replace hE:=hE.out
 replace hb0:=hb0.out
 replace k1:=k1.out
 replace hp1:=hp1.out
 replace hbn1:=hbn1.out
 replace hs1:=hs1.out
 replace hn1:=hn1.out
 refine (cleave_PT s (.done ⟨0,x⟩) F1 v1 w4 hp1 hbn1).mono ?_
 rintro e w' hR
 have HXZ:=Lib.hid (ext_trans HX1.out hR.ext)
 obtain ⟨v',F',rfl,hX,hp,hbn,hsub,hnF,hbq⟩:=hR.tail (G:=noF) (w.heap.size) hE (heap_lt hb0) hn1 (fun j h => hs1 j h)
 have hbx:=hbq.trans hb0
 clear hbq hR
 go_wp2
 refine mixQ_mk (over_of HXZ.out) (mix_late ?_)
 clear hE hb0 k1 hp1 hbn1 hs1 hn1 z0 z1 z2 z3 z4 z5 z6 z7 zl
 obtain ⟨y0,y1,a2,fn2,rfl,HFN,HX⟩:=tlR hp hX hbx hbn hsub hnF (by omega)
 obtain ⟨c0,c1,c2,c3,c4,c5,c6,c7,cz,ll⟩:=eit_of hbx
 clear hX hbx hp hbn hsub hnF
 rcases HFN.out with rfl | ⟨g',caps',rfl⟩
 all_goals
  go_wp2
  refine lateQ_mk (fun _ => True) trivial (mix_end ?_)
  clear c0 c1 c2 c3 c4 c5 c6 c7 cz ll
  obtain ⟨hX,hB,hP⟩:=HX.out
  clear HX
  generalize (World.setCell _ (⟨w.heap.size,7,none⟩ : Addr) _) = Z at hX hB hP ⊢
  obtain ⟨c0,c1,c2,c3,c4,c5,c6,c7,cz,ll⟩:=eit_of hB
  go_wp2
  exact bodyPost_ret (by simp only [results,Tryz.results183,go_sem];simp [go_sem,c0,c1,c2,c3,c4,c5,c6,c7]) rfl ⟨_,F',rfl,hX,hP⟩
theorem tch1_CT (s:Se) (B1:Nat) (w:World)  (k1:SBox B1 s w)  :
  CT kU kR (fun x => tch1T s.p s.th x) (fun j => j = B1) (.func (.func 183) #[] #[.pointer (some ⟨B1,0,none⟩)]) w:=by
 refine ⟨_,_,rfl,enters_of Tryz.func183 (by kernel_rfl) rfl,fun x9 w' ha => ?_⟩
 exact (tch1_PT s x9 B1 w' ((ha B1 (rfl)).trans k1)).mono fun _ _ h => h.mono fun j h => h.elim
theorem lbad_PT (s:Se) (B1:Nat) (w:World)  (k1:SBox B1 s w) :
  Calls Tryz.prog 186 #[.pointer (some ⟨B1,0,none⟩)] w (RetP (PT kR (lvT s.p s.th badT)) noF w):=by
 have qk1:=heap_lt k1
 have ⟨z0,z1,z2,z3,z4,z5,z6,z7,zl⟩:=SBox.plc k1
 replace k1:=Lib.hid k1
 go_enter Tryz.func186,Tryz.ntmps186
 go_upto_region 1 with (fail)
 have ⟨hE,hb0,hW⟩:=al1 w (.cells #[.int .i64 0,.int .u64 0,.int .i64 0,.int .i64 0,.int .u64 0,.int .u64 0,.nilFunc,.pointer none] 99)
 generalize (w.alloc (.cells #[.int .i64 0,.int .u64 0,.int .i64 0,.int .i64 0,.int .u64 0,.int .u64 0,.nilFunc,.pointer none] 99)) = W at hE hb0 hW ⊢
 replace k1:=(hE.block _ (heap_lt k1.out)).trans k1.out
 clear z0 z1 z2 z3 z4 z5 z6 z7 zl
 have ⟨z0,z1,z2,z3,z4,z5,z6,z7,zl⟩:=SBox.plc k1
 replace hE:=Lib.hid hE
 replace hb0:=Lib.hid hb0
 replace k1:=Lib.hid k1
 refine wp_region_mix (fun w' => ∃ s,w' = over W s) [(0,[0]),(1,[1]),(1,[2]),(2,[3])] (by kernel_rfl) (by kernel_rfl) (over_of (ext_drew (ext_refl W))) ?_
 simp only [pieces,pickL,List.map_cons,List.map_nil,List.getD_cons_zero,List.getD_cons_succ]
 refine mix_reads ?_
 repeat (go_big_quiet_step (fail))
 refine wpQuiet_nil (mix_acts ?_)
 have HX0:=Lib.hid (ext_drew (ext_refl W))
 go_wp2_with (go_at_call 124;refine (bad_PT _).mono ?_;rintro e w4 ⟨v1,F1,rfl,hx,hp1,hbn1,hsub1⟩;refine Hid.out ?_)
 refine Lib.hid ?_
 replace hE:=hE.out
 replace hb0:=hb0.out
 replace k1:=k1.out
 have hn1:¬ F1 (w.heap.size):=fun h => (hsub1 _ h).elim (fun h => h) fun h => by have:=heap_lt hb0;have:=HX0.out.size;omega
 have hs1:∀ j,F1 j → noF j ∨ w.heap.size ≤ j:=fun j hj => (hsub1 j hj).imp_right fun h => Nat.le_trans (Nat.le_trans hE.size HX0.out.size) h
 have HX1:=Lib.hid (ext_trans HX0.out hx)
 replace hb0:=(HX1.out.block _ (heap_lt hb0)).trans hb0
 replace k1:=(HX1.out.block _ (heap_lt k1)).trans k1
 replace hE:=ext_trans hE HX1.out
 clear hx hsub1
 replace hE:=Lib.hid hE
 replace hb0:=Lib.hid hb0
 replace k1:=Lib.hid k1
 replace hp1:=Lib.hid hp1
 replace hbn1:=Lib.hid hbn1
 replace hs1:=Lib.hid hs1
 replace hn1:=Lib.hid hn1
 go_wp2
 refine mixQ_mk (over_of HX1.out) (mix_acts ?_)
 go_wp2_with (go_at_call 184;refine Hid.out ?_)
 refine Lib.hid ?_
 replace hE:=hE.out
 replace hb0:=hb0.out
 replace k1:=k1.out
 replace hp1:=hp1.out
 replace hbn1:=hbn1.out
 replace hs1:=hs1.out
 replace hn1:=hn1.out
 refine (cleave_PT s badT F1 v1 w4 hp1 hbn1).mono ?_
 rintro e w' hR
 have HXZ:=Lib.hid (ext_trans HX1.out hR.ext)
 obtain ⟨v',F',rfl,hX,hp,hbn,hsub,hnF,hbq⟩:=hR.tail (G:=noF) (w.heap.size) hE (heap_lt hb0) hn1 (fun j h => hs1 j h)
 have hbx:=hbq.trans hb0
 clear hbq hR
 go_wp2
 refine mixQ_mk (over_of HXZ.out) (mix_late ?_)
 clear hE hb0 k1 hp1 hbn1 hs1 hn1 z0 z1 z2 z3 z4 z5 z6 z7 zl
 obtain ⟨y0,y1,a2,fn2,rfl,HFN,HX⟩:=tlR hp hX hbx hbn hsub hnF (by omega)
 obtain ⟨c0,c1,c2,c3,c4,c5,c6,c7,cz,ll⟩:=eit_of hbx
 clear hX hbx hp hbn hsub hnF
 rcases HFN.out with rfl | ⟨g',caps',rfl⟩
 all_goals
  go_wp2
  refine lateQ_mk (fun _ => True) trivial (mix_end ?_)
  clear c0 c1 c2 c3 c4 c5 c6 c7 cz ll
  obtain ⟨hX,hB,hP⟩:=HX.out
  clear HX
  generalize (World.setCell _ (⟨w.heap.size,7,none⟩ : Addr) _) = Z at hX hB hP ⊢
  obtain ⟨c0,c1,c2,c3,c4,c5,c6,c7,cz,ll⟩:=eit_of hB
  go_wp2
  exact bodyPost_ret (by simp only [results,Tryz.results186,go_sem];simp [go_sem,c0,c1,c2,c3,c4,c5,c6,c7]) rfl ⟨_,F',rfl,hX,hP⟩
theorem lbad_AR (s:Se) (B1:Nat) (w:World)  (k1:SBox B1 s w)  :
  AR (lvT s.p s.th badT) (fun j => j = B1) (.func (.func 186) #[] #[.pointer (some ⟨B1,0,none⟩)]) w:=by
 refine ⟨_,_,rfl,enters_of Tryz.func186 (by kernel_rfl) rfl,fun w' ha => ?_⟩
 exact (lbad_PT s B1 w' ((ha B1 (rfl)).trans k1)).mono fun _ _ h => h.mono fun j h => h.elim
theorem tch_PT (s:Se) (h:Hn) (fd:Int) (d:Int → Tr (BitVec 64)) (F:Nat → Prop) (g:FuncId) (caps:Array Value) (B1 B2 B3 B4:Nat) (w:World) (hD:CT kI kU d F (.func (.func g) #[] caps) w) (k1:w.heap[B1]? = some (.cells #[.func (.func g) #[] caps] 205 (0,0))) (k2:SBox B2 s w) (k3:w.heap[B3]? = some (.cells #[.int .i64 h.i,.int .i64 h.g,.int .i64 h.t] 107 (0,0))) (k4:w.heap[B4]? = some (.cells #[.int .i64 fd] 3 (0,0))) (hF:Bnd F w) :
  Calls Tryz.prog 181 #[.pointer (some ⟨B1,0,none⟩),.pointer (some ⟨B2,0,none⟩),.pointer (some ⟨B3,0,none⟩),.pointer (some ⟨B4,0,none⟩)] w (RetP (PT kR (tchT s.p s.th (d (s.p.fdF h.i fd)))) (fun j => F j ∨ j = B2) w):=by
 obtain ⟨g',caps',e1,hg,hc⟩:=hD
 cases e1
 have HD:=Lib.hid hc
 unfold Enters at hg
 clear hc
 have qk1:=heap_lt k1
 have d1_0:=cell_at (o:=0) k1 rfl
 have e1:=cell_lt d1_0
 have qk2:=heap_lt k2
 have ⟨z0,z1,z2,z3,z4,z5,z6,z7,zl⟩:=SBox.plc k2
 have qk3:=heap_lt k3
 have d3_0:=cell_at (o:=0) k3 rfl
 have d3_1:=cell_at (o:=1) k3 rfl
 have d3_2:=cell_at (o:=2) k3 rfl
 have e3:=cell_lt d3_0
 have qk4:=heap_lt k4
 have d4_0:=cell_at (o:=0) k4 rfl
 have e4:=cell_lt d4_0
 replace k1:=Lib.hid k1
 replace k2:=Lib.hid k2
 replace k3:=Lib.hid k3
 replace k4:=Lib.hid k4
 replace hF:=Lib.hid hF
 go_enter Tryz.func181,Tryz.ntmps181
 go_upto_region 1 with (fail)
 have ⟨hE,hb0,hW⟩:=al1 w (.cells #[.int .i64 0,.int .u64 0,.int .i64 0,.int .i64 0,.int .u64 0,.int .u64 0,.nilFunc,.pointer none] 99)
 generalize (w.alloc (.cells #[.int .i64 0,.int .u64 0,.int .i64 0,.int .i64 0,.int .u64 0,.int .u64 0,.nilFunc,.pointer none] 99)) = W at hE hb0 hW ⊢
 replace k1:=(hE.block _ (heap_lt k1.out)).trans k1.out
 replace k2:=(hE.block _ (heap_lt k2.out)).trans k2.out
 replace k3:=(hE.block _ (heap_lt k3.out)).trans k3.out
 replace k4:=(hE.block _ (heap_lt k4.out)).trans k4.out
 clear d1_0 e1 z0 z1 z2 z3 z4 z5 z6 z7 zl d3_0 d3_1 d3_2 e3 d4_0 e4
 have d5_0:=cell_at (o:=0) k1 rfl
 have e5:=cell_lt d5_0
 have ⟨z0,z1,z2,z3,z4,z5,z6,z7,zl⟩:=SBox.plc k2
 have d7_0:=cell_at (o:=0) k3 rfl
 have d7_1:=cell_at (o:=1) k3 rfl
 have d7_2:=cell_at (o:=2) k3 rfl
 have e7:=cell_lt d7_0
 have d8_0:=cell_at (o:=0) k4 rfl
 have e8:=cell_lt d8_0
 replace hE:=Lib.hid hE
 replace hb0:=Lib.hid hb0
 replace k1:=Lib.hid k1
 replace k2:=Lib.hid k2
 replace k3:=Lib.hid k3
 replace k4:=Lib.hid k4
 refine wp_region_mix (fun w' => ∃ s,w' = over W s) [(0,[0,1,2,3,4,5,8]),(1,[6]),(1,[7]),(1,[9]),(2,[10])] (by kernel_rfl) (by kernel_rfl) (over_of (ext_drew (ext_refl W))) ?_
 simp only [pieces,pickL,List.map_cons,List.map_nil,List.getD_cons_zero,List.getD_cons_succ]
 refine mix_reads ?_
 repeat (go_big_quiet_step (fail))
 refine wpQuiet_nil (mix_acts ?_)
 have HX0:=Lib.hid (ext_drew (ext_refl W))
 go_wp2_with (go_at_call 99;refine (field_any s.p h.i fd _).mono ?_;rintro e w1 ⟨rfl,hx⟩;have HX1:=Lib.hid (ext_trans HX0.out hx);clear hx)
 refine mixQ_mk (over_of HX1.out) (mix_acts ?_)
 have HCX:=Lib.hid (fun (W1:World) (hW1:Ext W W1) => HD.out (s.p.fdF h.i fd) W1 (Agr.of_ext (ext_trans hE.out hW1) hF.out))
 go_wp2_with (refine (HCX.out _ HX1.out).mono ?_;rintro e w4 ⟨v1,F1,rfl,hx,hp1,hbn1,hsub1⟩;refine Hid.out ?_)
 refine Lib.hid ?_
 replace hE:=hE.out
 replace hb0:=hb0.out
 replace k1:=k1.out
 replace k2:=k2.out
 replace k3:=k3.out
 replace k4:=k4.out
 have hn1:¬ F1 (w.heap.size):=fun h => (hsub1 _ h).elim (fun h => by have:=hF.out _ h;omega) fun h => by have:=heap_lt hb0;have:=HX1.out.size;omega
 have hs1:∀ j,F1 j → F j ∨ w.heap.size ≤ j:=fun j hj => (hsub1 j hj).imp_right fun h => Nat.le_trans (Nat.le_trans hE.size HX1.out.size) h
 have HX2:=Lib.hid (ext_trans HX1.out hx)
 replace hb0:=(HX2.out.block _ (heap_lt hb0)).trans hb0
 replace k1:=(HX2.out.block _ (heap_lt k1)).trans k1
 replace k2:=(HX2.out.block _ (heap_lt k2)).trans k2
 replace k3:=(HX2.out.block _ (heap_lt k3)).trans k3
 replace k4:=(HX2.out.block _ (heap_lt k4)).trans k4
 replace hE:=ext_trans hE HX2.out
 clear hx hsub1
 replace hE:=Lib.hid hE
 replace hb0:=Lib.hid hb0
 replace k1:=Lib.hid k1
 replace k2:=Lib.hid k2
 replace k3:=Lib.hid k3
 replace k4:=Lib.hid k4
 replace hp1:=Lib.hid hp1
 replace hbn1:=Lib.hid hbn1
 replace hs1:=Lib.hid hs1
 replace hn1:=Lib.hid hn1
 go_wp2
 refine mixQ_mk (over_of HX2.out) (mix_acts ?_)
 go_wp2_with (go_at_call 182;refine Hid.out ?_)
 refine Lib.hid ?_
 replace hE:=hE.out
 replace hb0:=hb0.out
 replace k1:=k1.out
 replace k2:=k2.out
 replace k3:=k3.out
 replace k4:=k4.out
 replace hp1:=hp1.out
 replace hbn1:=hbn1.out
 replace hs1:=hs1.out
 replace hn1:=hn1.out
 have hCT:=tch1_CT s B2 w4 k2
 refine (then_UR _ _ F1 _ v1 _ w4 hp1 hCT hbn1 (fun j h => by subst h;exact heap_lt k2)).mono ?_
 rintro e w' hR
 have HXZ:=Lib.hid (ext_trans HX2.out hR.ext)
 obtain ⟨v',F',rfl,hX,hp,hbn,hsub,hnF,hbq⟩:=hR.tail (G:=(fun j => F j ∨ j = B2)) (w.heap.size) hE (heap_lt hb0) (fun h => by rcases h with h | h;exact hn1 h;omega) (fun j h => by rcases h with h | h;exact (hs1 j h).imp_left .inl;exact .inl (.inr h))
 have hbx:=hbq.trans hb0
 clear hbq hR
 go_wp2
 refine mixQ_mk (over_of HXZ.out) (mix_late ?_)
 clear hE hb0 k1 k2 k3 k4 hp1 hbn1 hs1 hn1 d5_0 e5 z0 z1 z2 z3 z4 z5 z6 z7 zl d7_0 d7_1 d7_2 e7 d8_0 e8 hF
 obtain ⟨y0,y1,a2,fn2,rfl,HFN,HX⟩:=tlR hp hX hbx hbn hsub hnF (by omega)
 obtain ⟨c0,c1,c2,c3,c4,c5,c6,c7,cz,ll⟩:=eit_of hbx
 clear hX hbx hp hbn hsub hnF
 rcases HFN.out with rfl | ⟨g',caps',rfl⟩
 all_goals
  go_wp2
  refine lateQ_mk (fun _ => True) trivial (mix_end ?_)
  clear c0 c1 c2 c3 c4 c5 c6 c7 cz ll
  obtain ⟨hX,hB,hP⟩:=HX.out
  clear HX
  generalize (World.setCell _ (⟨w.heap.size,7,none⟩ : Addr) _) = Z at hX hB hP ⊢
  obtain ⟨c0,c1,c2,c3,c4,c5,c6,c7,cz,ll⟩:=eit_of hB
  go_wp2
  exact bodyPost_ret (by simp only [results,Tryz.results181,go_sem];simp [go_sem,c0,c1,c2,c3,c4,c5,c6,c7]) rfl ⟨_,F',rfl,hX,hP⟩
theorem tch_AR (s:Se) (h:Hn) (fd:Int) (d:Int → Tr (BitVec 64)) (F:Nat → Prop) (g:FuncId) (caps:Array Value) (B1 B2 B3 B4:Nat) (w:World) (hD:CT kI kU d F (.func (.func g) #[] caps) w) (k1:w.heap[B1]? = some (.cells #[.func (.func g) #[] caps] 205 (0,0))) (k2:SBox B2 s w) (k3:w.heap[B3]? = some (.cells #[.int .i64 h.i,.int .i64 h.g,.int .i64 h.t] 107 (0,0))) (k4:w.heap[B4]? = some (.cells #[.int .i64 fd] 3 (0,0))) (hF:Bnd F w) :
  AR (tchT s.p s.th (d (s.p.fdF h.i fd))) (fun j => F j ∨ j = B1 ∨ j = B2 ∨ j = B3 ∨ j = B4) (.func (.func 181) #[] #[.pointer (some ⟨B1,0,none⟩),.pointer (some ⟨B2,0,none⟩),.pointer (some ⟨B3,0,none⟩),.pointer (some ⟨B4,0,none⟩)]) w:=by
 refine ⟨_,_,rfl,enters_of Tryz.func181 (by kernel_rfl) rfl,fun w' ha => ?_⟩
 have hFw:Agr F w w':=ha.sub fun j h => .inl h
 exact (tch_PT s h fd d F g caps B1 B2 B3 B4 w' (hD.agr hFw) ((ha B1 (.inr (.inl rfl))).trans k1) ((ha B2 (.inr (.inr (.inl rfl)))).trans k2) ((ha B3 (.inr (.inr (.inr (.inl rfl))))).trans k3) ((ha B4 (.inr (.inr (.inr (.inr rfl))))).trans k4) (hF.agr hFw)).mono fun _ _ h => h.mono fun j h => h.elim .inl fun h => .inr (.inr (.inl h))
theorem agn_PT (s:Se) (h:Hn) (tr:Tr Rz) (F:Nat → Prop) (g:FuncId) (caps:Array Value) (B1 B2 B3:Nat) (w:World) (hT:AR tr F (.func (.func g) #[] caps) w) (k1:SBox B1 s w) (k2:w.heap[B2]? = some (.cells #[.int .i64 h.i,.int .i64 h.g,.int .i64 h.t] 107 (0,0))) (k3:w.heap[B3]? = some (.cells #[.func (.func g) #[] caps] 212 (0,0))) (hF:Bnd F w) :
  Calls Tryz.prog 185 #[.agg #[],.pointer (some ⟨B1,0,none⟩),.pointer (some ⟨B2,0,none⟩),.pointer (some ⟨B3,0,none⟩)] w (RetP (PT kR (agnT s.p s.th h tr)) (fun j => F j ∨ j = B1) w):=by
 have qk1:=heap_lt k1
 have ⟨z0,z1,z2,z3,z4,z5,z6,z7,zl⟩:=SBox.plc k1
 have qk2:=heap_lt k2
 have d2_0:=cell_at (o:=0) k2 rfl
 have d2_1:=cell_at (o:=1) k2 rfl
 have d2_2:=cell_at (o:=2) k2 rfl
 have e2:=cell_lt d2_0
 have qk3:=heap_lt k3
 have d3_0:=cell_at (o:=0) k3 rfl
 have e3:=cell_lt d3_0
 replace k1:=Lib.hid k1
 replace k2:=Lib.hid k2
 replace k3:=Lib.hid k3
 replace hT:=Lib.hid hT
 go_enter Tryz.func185,Tryz.ntmps185
 go_wp2_with (go_at_call 125;refine Hid.out ?_)
 refine Lib.hid ?_
 have ⟨hE,hb0,hb1,hW⟩:=al2 w (.cells #[] 132) (.cells #[.int .i64 0,.int .u64 0,.int .i64 0,.int .i64 0,.int .u64 0,.int .u64 0,.nilFunc,.pointer none] 99)
 generalize ((w.alloc (.cells #[] 132)).alloc (.cells #[.int .i64 0,.int .u64 0,.int .i64 0,.int .i64 0,.int .u64 0,.int .u64 0,.nilFunc,.pointer none] 99)) = W at hE hb0 hb1 hW ⊢
 replace k1:=(hE.block _ (heap_lt k1.out)).trans k1.out
 replace k2:=(hE.block _ (heap_lt k2.out)).trans k2.out
 replace k3:=(hE.block _ (heap_lt k3.out)).trans k3.out
 clear hW
 clear z0 z1 z2 z3 z4 z5 z6 z7 zl d2_0 d2_1 d2_2 e2 d3_0 e3
 have hB1:∀ j,(F j ∨ j = B1) → j < w.heap.size:=fun j h => by rcases h with h | rfl;exact hF j h;exact qk1
 refine (wg_any s h tr (lvT s.p s.th badT) (fun j => F j ∨ j = B1) _ _ W ((lbad_AR s B1 _ k1).mono fun j h => .inr h) ((hT.out.agr (Agr.of_ext hE hF)).mono fun j h => .inl h) (fun j h => Nat.lt_of_lt_of_le (hB1 j h) hE.size)).mono ?_
 rintro e w' hR
 obtain ⟨v',F',rfl,hX,hp,hbn,hsub,hnF,hbq⟩:=hR.tail (G:=(fun j => F j ∨ j = B1)) (w.heap.size+1) hE (heap_lt hb1) (fun h => by (have:=hB1 _ h;omega)) (fun j h => by exact .inl (h))
 have hbx:=hbq.trans hb1
 clear hbq hR
 clear hE hb0 hb1 k1 k2 k3 hT
 obtain ⟨y0,y1,a2,fn2,rfl,HFN,HX⟩:=tlR hp hX hbx hbn hsub hnF (by omega)
 obtain ⟨c0,c1,c2,c3,c4,c5,c6,c7,cz,ll⟩:=eit_of hbx
 clear hX hbx hp hbn hsub hnF
 rcases HFN.out with rfl | ⟨g',caps',rfl⟩
 all_goals
  go_wp2
  clear c0 c1 c2 c3 c4 c5 c6 c7 cz ll
  obtain ⟨hX,hB,hP⟩:=HX.out
  clear HX
  generalize (World.setCell _ (⟨w.heap.size+1,7,none⟩ : Addr) _) = Z at hX hB hP ⊢
  obtain ⟨c0,c1,c2,c3,c4,c5,c6,c7,cz,ll⟩:=eit_of hB
  exact bodyPost_ret (by simp only [results,Tryz.results185,go_sem];simp [go_sem,c0,c1,c2,c3,c4,c5,c6,c7]) rfl ⟨_,F',rfl,hX,hP⟩
theorem agn_CT (s:Se) (h:Hn) (tr:Tr Rz) (F:Nat → Prop) (g:FuncId) (caps:Array Value) (B1 B2 B3:Nat) (w:World) (hT:AR tr F (.func (.func g) #[] caps) w) (k1:SBox B1 s w) (k2:w.heap[B2]? = some (.cells #[.int .i64 h.i,.int .i64 h.g,.int .i64 h.t] 107 (0,0))) (k3:w.heap[B3]? = some (.cells #[.func (.func g) #[] caps] 212 (0,0))) (hF:Bnd F w) :
  CT kN kR (fun _ => agnT s.p s.th h tr) (fun j => F j ∨ j = B1 ∨ j = B2 ∨ j = B3) (.func (.func 185) #[] #[.pointer (some ⟨B1,0,none⟩),.pointer (some ⟨B2,0,none⟩),.pointer (some ⟨B3,0,none⟩)]) w:=by
 refine ⟨_,_,rfl,enters_of Tryz.func185 (by kernel_rfl) rfl,fun x9 w' ha => ?_⟩
 have hFw:Agr F w w':=ha.sub fun j h => .inl h
 exact (agn_PT s h tr F g caps B1 B2 B3 w' (hT.agr hFw) ((ha B1 (.inr (.inl rfl))).trans k1) ((ha B2 (.inr (.inr (.inl rfl)))).trans k2) ((ha B3 (.inr (.inr (.inr rfl)))).trans k3) (hF.agr hFw)).mono fun _ _ h => h.mono fun j h => h.elim .inl fun h => .inr (.inl h)
theorem hldg_PT (s:Se) (h:Hn) (tr:Tr Rz) (F:Nat → Prop) (g:FuncId) (caps:Array Value) (B1 B2 B3:Nat) (w:World) (h0 : -1 ≤ h.i) (h1:h.i < 4611686018427387904) (hA:CT kN kR (fun _ => agnT s.p s.th h tr) F (.func (.func g) #[] caps) w) (k1:SBox B1 s w) (k2:w.heap[B2]? = some (.cells #[.int .i64 h.i,.int .i64 h.g,.int .i64 h.t] 107 (0,0))) (k3:w.heap[B3]? = some (.cells #[.func (.func g) #[] caps] 259 (0,0))) (hF:Bnd F w) :
  Calls Tryz.prog 187 #[.pointer (some ⟨B1,0,none⟩),.pointer (some ⟨B2,0,none⟩),.pointer (some ⟨B3,0,none⟩)] w (RetP (PT kR (hldgT s.p s.th h tr)) F w):=by
 have qk1:=heap_lt k1
 have ⟨z0,z1,z2,z3,z4,z5,z6,z7,zl⟩:=SBox.plc k1
 have qk2:=heap_lt k2
 have d2_0:=cell_at (o:=0) k2 rfl
 have d2_1:=cell_at (o:=1) k2 rfl
 have d2_2:=cell_at (o:=2) k2 rfl
 have e2:=cell_lt d2_0
 have qk3:=heap_lt k3
 have d3_0:=cell_at (o:=0) k3 rfl
 have e3:=cell_lt d3_0
 replace k1:=Lib.hid k1
 replace k2:=Lib.hid k2
 replace k3:=Lib.hid k3
 replace hF:=Lib.hid hF
 replace hA:=Lib.hid hA
 replace h0:=Lib.hid h0
 replace h1:=Lib.hid h1
 go_enter Tryz.func187,Tryz.ntmps187
 go_upto_region 1 with (fail)
 have ⟨hE,hb0,hW⟩:=al1 w (.cells #[.int .i64 0,.int .u64 0,.int .i64 0,.int .i64 0,.int .u64 0,.int .u64 0,.nilFunc,.pointer none] 99)
 generalize (w.alloc (.cells #[.int .i64 0,.int .u64 0,.int .i64 0,.int .i64 0,.int .u64 0,.int .u64 0,.nilFunc,.pointer none] 99)) = W at hE hb0 hW ⊢
 replace k1:=(hE.block _ (heap_lt k1.out)).trans k1.out
 replace k2:=(hE.block _ (heap_lt k2.out)).trans k2.out
 replace k3:=(hE.block _ (heap_lt k3.out)).trans k3.out
 clear z0 z1 z2 z3 z4 z5 z6 z7 zl d2_0 d2_1 d2_2 e2 d3_0 e3
 have ⟨z0,z1,z2,z3,z4,z5,z6,z7,zl⟩:=SBox.plc k1
 have d5_0:=cell_at (o:=0) k2 rfl
 have d5_1:=cell_at (o:=1) k2 rfl
 have d5_2:=cell_at (o:=2) k2 rfl
 have e5:=cell_lt d5_0
 have d6_0:=cell_at (o:=0) k3 rfl
 have e6:=cell_lt d6_0
 replace hE:=Lib.hid hE
 replace hb0:=Lib.hid hb0
 replace k1:=Lib.hid k1
 replace k2:=Lib.hid k2
 replace k3:=Lib.hid k3
 refine wp_region_mix (fun w' => ∃ s,w' = over W s) [(0,[0,1,2,3,4,5,7]),(1,[6]),(1,[8]),(2,[9])] (by kernel_rfl) (by kernel_rfl) (over_of (ext_drew (ext_refl W))) ?_
 simp only [pieces,pickL,List.map_cons,List.map_nil,List.getD_cons_zero,List.getD_cons_succ]
 refine mix_reads ?_
 repeat (go_big_quiet_step (fail))
 refine wpQuiet_nil (mix_acts ?_)
 have HX0:=Lib.hid (ext_drew (ext_refl W))
 go_wp2_with (go_at_call 189;refine (hset_PT s.p s.th 0 h.i h0.out h1.out _).mono ?_;rintro e w4 ⟨v1,F1,rfl,hx,hp1,hbn1,hsub1⟩;refine Hid.out ?_)
 refine Lib.hid ?_
 replace hE:=hE.out
 replace hb0:=hb0.out
 replace k1:=k1.out
 replace k2:=k2.out
 replace k3:=k3.out
 have hn1:¬ F1 (w.heap.size):=fun h => (hsub1 _ h).elim (fun h => h) fun h => by have:=heap_lt hb0;have:=HX0.out.size;omega
 have hs1:∀ j,F1 j → noF j ∨ w.heap.size ≤ j:=fun j hj => (hsub1 j hj).imp_right fun h => Nat.le_trans (Nat.le_trans hE.size HX0.out.size) h
 have HX1:=Lib.hid (ext_trans HX0.out hx)
 replace hb0:=(HX1.out.block _ (heap_lt hb0)).trans hb0
 replace k1:=(HX1.out.block _ (heap_lt k1)).trans k1
 replace k2:=(HX1.out.block _ (heap_lt k2)).trans k2
 replace k3:=(HX1.out.block _ (heap_lt k3)).trans k3
 replace hE:=ext_trans hE HX1.out
 clear hx hsub1
 replace hE:=Lib.hid hE
 replace hb0:=Lib.hid hb0
 replace k1:=Lib.hid k1
 replace k2:=Lib.hid k2
 replace k3:=Lib.hid k3
 replace hp1:=Lib.hid hp1
 replace hbn1:=Lib.hid hbn1
 replace hs1:=Lib.hid hs1
 replace hn1:=Lib.hid hn1
 go_wp2
 refine mixQ_mk (over_of HX1.out) (mix_acts ?_)
 go_wp2_with (go_at_call 188;refine Hid.out ?_)
 refine Lib.hid ?_
 replace hE:=hE.out
 replace hb0:=hb0.out
 replace k1:=k1.out
 replace k2:=k2.out
 replace k3:=k3.out
 replace hp1:=hp1.out
 replace hbn1:=hbn1.out
 replace hs1:=hs1.out
 replace hn1:=hn1.out
 have hCT:=hA.out.agr (Agr.of_ext hE hF.out)
 refine (then_NR _ _ F1 _ v1 _ w4 hp1 hCT hbn1 (fun j h => Nat.lt_of_lt_of_le (hF.out j h) hE.size)).mono ?_
 rintro e w' hR
 have HXZ:=Lib.hid (ext_trans HX1.out hR.ext)
 obtain ⟨v',F',rfl,hX,hp,hbn,hsub,hnF,hbq⟩:=hR.tail (G:=F) (w.heap.size) hE (heap_lt hb0) (fun h => by rcases h with h | h;exact hn1 h;(have:=hF.out _ h;omega)) (fun j h => by rcases h with h | h;exact (hs1 j h).imp_left False.elim;exact .inl h)
 have hbx:=hbq.trans hb0
 clear hbq hR
 go_wp2
 refine mixQ_mk (over_of HXZ.out) (mix_late ?_)
 clear hE hb0 k1 k2 k3 hp1 hbn1 hs1 hn1 z0 z1 z2 z3 z4 z5 z6 z7 zl d5_0 d5_1 d5_2 e5 d6_0 e6 hF hA h0 h1
 obtain ⟨y0,y1,a2,fn2,rfl,HFN,HX⟩:=tlR hp hX hbx hbn hsub hnF (by omega)
 obtain ⟨c0,c1,c2,c3,c4,c5,c6,c7,cz,ll⟩:=eit_of hbx
 clear hX hbx hp hbn hsub hnF
 rcases HFN.out with rfl | ⟨g',caps',rfl⟩
 all_goals
  go_wp2
  refine lateQ_mk (fun _ => True) trivial (mix_end ?_)
  clear c0 c1 c2 c3 c4 c5 c6 c7 cz ll
  obtain ⟨hX,hB,hP⟩:=HX.out
  clear HX
  generalize (World.setCell _ (⟨w.heap.size,7,none⟩ : Addr) _) = Z at hX hB hP ⊢
  obtain ⟨c0,c1,c2,c3,c4,c5,c6,c7,cz,ll⟩:=eit_of hB
  go_wp2
  exact bodyPost_ret (by simp only [results,Tryz.results187,go_sem];simp [go_sem,c0,c1,c2,c3,c4,c5,c6,c7]) rfl ⟨_,F',rfl,hX,hP⟩
theorem hldg_AR (s:Se) (h:Hn) (tr:Tr Rz) (F:Nat → Prop) (g:FuncId) (caps:Array Value) (B1 B2 B3:Nat) (w:World) (h0 : -1 ≤ h.i) (h1:h.i < 4611686018427387904) (hA:CT kN kR (fun _ => agnT s.p s.th h tr) F (.func (.func g) #[] caps) w) (k1:SBox B1 s w) (k2:w.heap[B2]? = some (.cells #[.int .i64 h.i,.int .i64 h.g,.int .i64 h.t] 107 (0,0))) (k3:w.heap[B3]? = some (.cells #[.func (.func g) #[] caps] 259 (0,0))) (hF:Bnd F w) :
  AR (hldgT s.p s.th h tr) (fun j => F j ∨ j = B1 ∨ j = B2 ∨ j = B3) (.func (.func 187) #[] #[.pointer (some ⟨B1,0,none⟩),.pointer (some ⟨B2,0,none⟩),.pointer (some ⟨B3,0,none⟩)]) w:=by
 refine ⟨_,_,rfl,enters_of Tryz.func187 (by kernel_rfl) rfl,fun w' ha => ?_⟩
 have hFw:Agr F w w':=ha.sub fun j h => .inl h
 exact (hldg_PT s h tr F g caps B1 B2 B3 w' h0 h1 (hA.agr hFw) ((ha B1 (.inr (.inl rfl))).trans k1) ((ha B2 (.inr (.inr (.inl rfl)))).trans k2) ((ha B3 (.inr (.inr (.inr rfl)))).trans k3) (hF.agr hFw)).mono fun _ _ h => h.mono fun j h => .inl h
end Go.Proofs.YthjklbonebnekaaGreat

