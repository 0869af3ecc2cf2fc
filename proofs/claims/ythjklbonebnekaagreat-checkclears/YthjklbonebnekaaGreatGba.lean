/-
  What the call of Reclaim comes to. Conditions: those of each theorem.
-/
import Derived.Test.YthjklbonebnekaaGreatGag
import Derived.Test.YthjklbonebnekaaGreatGar
import Derived.Test.YthjklbonebnekaaGreatGay
import Derived.Test.YthjklbonebnekaaGreatGaz
set_option maxRecDepth 8000
set_option maxHeartbeats 4000000
namespace Go.Proofs.YthjklbonebnekaaGreat
open Go Go.RowKit
theorem rcl2_PT (p:Pl) (n:Int) (N:Nat) (x:BitVec 64) (B1 B2:Nat) (w:World)  (k1:PBox B1 p w) (k2:w.heap[B2]? = some (.cells #[.int .i64 n] 3 (0,0))) :
  Calls Tryz.prog 265 #[.int .u64 (U x),.pointer (some ⟨B1,0,none⟩),.pointer (some ⟨B2,0,none⟩)] w (RetP (PT kI (frdT p n N x)) noF w):=by
 have qk1:=heap_lt k1
 have ⟨c0,c1,c2,c3,c4,c5,lt⟩:=PBox.plc k1
 have qk2:=heap_lt k2
 have d2_0:=cell_at (o:=0) k2 rfl
 have e2:=cell_lt d2_0
 replace k1:=Lib.hid k1
 replace k2:=Lib.hid k2
 go_enter Tryz.func265,Tryz.ntmps265
 go_wp2_with (go_at_call 266;refine Hid.out ?_)
 refine Lib.hid ?_
 have ⟨hE,hb0,hW⟩:=al1 w (.cells #[.int .i64 0,.int .i64 0,.int .i64 0,.int .u64 0,.int .u64 0,.nilFunc,.pointer none] 62)
 generalize (w.alloc (.cells #[.int .i64 0,.int .i64 0,.int .i64 0,.int .u64 0,.int .u64 0,.nilFunc,.pointer none] 62)) = W at hE hb0 hW ⊢
 replace k1:=(hE.block _ (heap_lt k1.out)).trans k1.out
 replace k2:=(hE.block _ (heap_lt k2.out)).trans k2.out
 clear hW
 clear c0 c1 c2 c3 c4 c5 lt d2_0 e2
 refine (frd_PT p n N x W).mono ?_
 rintro e w' hR
 obtain ⟨v',F',rfl,hX,hp,hbn,hsub,hnF,hbq⟩:=hR.tail (G:=noF) (w.heap.size) hE (heap_lt hb0) (fun h => h) (fun _ h => h.elim)
 have hbx:=hbq.trans hb0
 clear hbq hR
 clear hE hb0 k1 k2
 obtain ⟨y,a2,fn2,rfl,HFN,HX⟩:=tlI hp hX hbx hbn hsub hnF (by omega)
 obtain ⟨c0,c1,c2,c3,c4,c5,c6,cz,ll⟩:=sev_of hbx
 clear hX hbx hp hbn hsub hnF
 rcases HFN.out with rfl | ⟨g',caps',rfl⟩
 all_goals
  go_wp2
  clear c0 c1 c2 c3 c4 c5 c6 cz ll
  obtain ⟨hX,hB,hP⟩:=HX.out
  clear HX
  generalize (World.setCell _ (⟨w.heap.size,6,none⟩ : Addr) _) = Z at hX hB hP ⊢
  obtain ⟨c0,c1,c2,c3,c4,c5,c6,cz,ll⟩:=sev_of hB
  exact bodyPost_ret (by simp only [results,Tryz.results265,go_sem];simp [go_sem,c0,c1,c2,c3,c4,c5,c6]) rfl ⟨_,F',rfl,hX,hP⟩
theorem rcl2_CT (p:Pl) (n:Int) (N:Nat) (B1 B2:Nat) (w:World)  (k1:PBox B1 p w) (k2:w.heap[B2]? = some (.cells #[.int .i64 n] 3 (0,0))) :
  CT kU kI (fun x => frdT p n N x) (fun j => j = B1 ∨ j = B2) (.func (.func 265) #[] #[.pointer (some ⟨B1,0,none⟩),.pointer (some ⟨B2,0,none⟩)]) w:=
 ⟨_,_,rfl,enters_of Tryz.func265 (by kernel_rfl) rfl,fun x w' ha => (rcl2_PT p n N x B1 B2 w'  ((ha B1 (.inl rfl)).trans k1) ((ha B2 (.inr rfl)).trans k2)).mono fun _ _ h => h.mono fun _ h => h.elim⟩
theorem rcl1_PT (p:Pl) (n:Int) (N:Nat) (sa:Option Addr) (sn sc:Nat) (B1 B2:Nat) (w:World)  (k1:PBox B1 p w) (k2:w.heap[B2]? = some (.cells #[.int .i64 n] 3 (0,0))) :
  Calls Tryz.prog 264 #[.slice sa sn sc,.pointer (some ⟨B1,0,none⟩),.pointer (some ⟨B2,0,none⟩)] w (RetP (PT kI (rcl1T p n N)) (fun j => j = B1 ∨ j = B2) w):=by
 have qk1:=heap_lt k1
 have ⟨c0,c1,c2,c3,c4,c5,lt⟩:=PBox.plc k1
 have qk2:=heap_lt k2
 have d2_0:=cell_at (o:=0) k2 rfl
 have e2:=cell_lt d2_0
 replace k1:=Lib.hid k1
 replace k2:=Lib.hid k2
 go_enter Tryz.func264,Tryz.ntmps264
 go_wp2_with (go_at_call 21;refine Hid.out ?_)
 refine Lib.hid ?_
 have ⟨hE,hb0,hW⟩:=al1 w (.cells #[.int .i64 0,.int .i64 0,.int .i64 0,.int .u64 0,.int .u64 0,.nilFunc,.pointer none] 62)
 generalize (w.alloc (.cells #[.int .i64 0,.int .i64 0,.int .i64 0,.int .u64 0,.int .u64 0,.nilFunc,.pointer none] 62)) = W at hE hb0 hW ⊢
 replace k1:=(hE.block _ (heap_lt k1.out)).trans k1.out
 replace k2:=(hE.block _ (heap_lt k2.out)).trans k2.out
 clear hW
 clear c0 c1 c2 c3 c4 c5 lt d2_0 e2
 refine (state_any p n W).mono ?_
 rintro e w1 ⟨rfl,hx⟩
 replace hE:=ext_trans hE hx
 replace hb0:=(hx.block _ (heap_lt hb0)).trans hb0
 replace k1:=(hx.block _ (heap_lt k1)).trans k1
 replace k2:=(hx.block _ (heap_lt k2)).trans k2
 clear hx
 replace hE:=Lib.hid hE
 replace hb0:=Lib.hid hb0
 replace k1:=Lib.hid k1
 replace k2:=Lib.hid k2
 go_wp2_with (go_at_call 117;refine Hid.out ?_)
 refine Lib.hid ?_
 replace hE:=hE.out
 replace hb0:=hb0.out
 replace k1:=k1.out
 replace k2:=k2.out
 refine (get_PT (p.stF n) w1).mono ?_
 rintro e w2 ⟨v1,F1,rfl,hx,hp1,hbn1,hsub⟩
 have hn1:¬ F1 (w.heap.size):=fun h => (hsub _ h).elim (fun h => h) fun h => by have:=heap_lt hb0;omega
 have hs1:∀ j,F1 j → noF j ∨ w.heap.size ≤ j:=fun j hj => (hsub j hj).imp_right fun h => Nat.le_trans hE.size h
 replace hE:=ext_trans hE hx
 replace hb0:=(hx.block _ (heap_lt hb0)).trans hb0
 replace k1:=(hx.block _ (heap_lt k1)).trans k1
 replace k2:=(hx.block _ (heap_lt k2)).trans k2
 clear hx hsub
 replace hE:=Lib.hid hE
 replace hb0:=Lib.hid hb0
 replace k1:=Lib.hid k1
 replace k2:=Lib.hid k2
 replace hp1:=Lib.hid hp1
 replace hbn1:=Lib.hid hbn1
 replace hs1:=Lib.hid hs1
 replace hn1:=Lib.hid hn1
 go_wp2_with (go_at_call 139;refine Hid.out ?_)
 refine Lib.hid ?_
 replace hE:=hE.out
 replace hb0:=hb0.out
 replace k1:=k1.out
 replace k2:=k2.out
 replace hp1:=hp1.out
 replace hbn1:=hbn1.out
 replace hs1:=hs1.out
 replace hn1:=hn1.out
 have hCT:=rcl2_CT p n N B1 B2 w2 k1 k2
 refine (then_UI _ _ F1 _ v1 _ w2 hp1 hCT hbn1 (fun j h => by rcases h with rfl | rfl;exact heap_lt k1;exact heap_lt k2)).mono ?_
 rintro e w' hR
 obtain ⟨v',F',rfl,hX,hp,hbn,hsub,hnF,hbq⟩:=hR.tail (G:=(fun j => j = B1 ∨ j = B2)) (w.heap.size) hE (heap_lt hb0) (fun h => by rcases h with h | h | h;exact hn1 h;omega;omega) (fun j h => by rcases h with h | h | h;exact (hs1 j h).imp_left False.elim;exact .inl (.inl h);exact .inl (.inr h))
 have hbx:=hbq.trans hb0
 clear hbq hR
 clear hE hb0 k1 k2 hp1 hbn1 hs1 hn1 hCT
 obtain ⟨y,a2,fn2,rfl,HFN,HX⟩:=tlI hp hX hbx hbn hsub hnF (by omega)
 obtain ⟨c0,c1,c2,c3,c4,c5,c6,cz,ll⟩:=sev_of hbx
 clear hX hbx hp hbn hsub hnF
 rcases HFN.out with rfl | ⟨g',caps',rfl⟩
 all_goals
  go_wp2
  clear c0 c1 c2 c3 c4 c5 c6 cz ll
  obtain ⟨hX,hB,hP⟩:=HX.out
  clear HX
  generalize (World.setCell _ (⟨w.heap.size,6,none⟩ : Addr) _) = Z at hX hB hP ⊢
  obtain ⟨c0,c1,c2,c3,c4,c5,c6,cz,ll⟩:=sev_of hB
  exact bodyPost_ret (by simp only [results,Tryz.results264,go_sem];simp [go_sem,c0,c1,c2,c3,c4,c5,c6]) rfl ⟨_,F',rfl,hX,hP⟩
theorem rcl1_CL (p:Pl) (n:Int) (N:Nat) (B1 B2:Nat) (w:World) (k1:PBox B1 p w) (k2:w.heap[B2]? = some (.cells #[.int .i64 n] 3 (0,0))):CL kI (rcl1T p n N) (fun j => j = B1 ∨ j = B2) (.func (.func 264) #[] #[.pointer (some ⟨B1,0,none⟩),.pointer (some ⟨B2,0,none⟩)]) w:=
 ⟨_,_,rfl,enters_of Tryz.func264 (by kernel_rfl) rfl,fun a m c w' ha => (rcl1_PT p n N a m c B1 B2 w' ((ha B1 (.inl rfl)).trans k1) ((ha B2 (.inr rfl)).trans k2))⟩
theorem rcl_PT (p:Pl) (n:Int) (N:Nat) (w:World)   :
  Calls Tryz.prog 258 #[plV p,.int .i64 n] w (RetP (PT kI (rclT p n N)) noF w):=by
 go_enter Tryz.func258,Tryz.ntmps258
 go_wp2_with (go_at_call 263;refine Hid.out ?_)
 refine Lib.hid ?_
 have ⟨hE,hb0,hb1,hb2,hW⟩:=al3 w (.cells #[.int .i64 p.n,.int .i64 p.t,.int .i64 p.r,.int .i64 p.d,.int .i64 p.b,.int .i64 p.g] 23) (.cells #[.int .i64 n] 3) (.cells #[.int .i64 0,.int .i64 0,.int .i64 0,.int .u64 0,.int .u64 0,.nilFunc,.pointer none] 62)
 generalize (((w.alloc (.cells #[.int .i64 p.n,.int .i64 p.t,.int .i64 p.r,.int .i64 p.d,.int .i64 p.b,.int .i64 p.g] 23)).alloc (.cells #[.int .i64 n] 3)).alloc (.cells #[.int .i64 0,.int .i64 0,.int .i64 0,.int .u64 0,.int .u64 0,.nilFunc,.pointer none] 62)) = W at hE hb0 hb1 hb2 hW ⊢
 clear hW
 refine (wipe_PA p n W).mono ?_
 rintro e w1 ⟨v1,F1,rfl,hx,hp1,hbn1,hsub⟩
 have hn1:¬ F1 (w.heap.size+1+1):=fun h => (hsub _ h).elim (fun h => h) fun h => by have:=heap_lt hb2;omega
 have hs1:∀ j,F1 j → noF j ∨ w.heap.size ≤ j:=fun j hj => (hsub j hj).imp_right fun h => Nat.le_trans hE.size h
 replace hE:=ext_trans hE hx
 replace hb0:=(hx.block _ (heap_lt hb0)).trans hb0
 replace hb1:=(hx.block _ (heap_lt hb1)).trans hb1
 replace hb2:=(hx.block _ (heap_lt hb2)).trans hb2
 clear hx hsub
 replace hE:=Lib.hid hE
 replace hb0:=Lib.hid hb0
 replace hb1:=Lib.hid hb1
 replace hb2:=Lib.hid hb2
 replace hp1:=Lib.hid hp1
 replace hbn1:=Lib.hid hbn1
 replace hs1:=Lib.hid hs1
 replace hn1:=Lib.hid hn1
 go_wp2_with (go_at_call 262;refine Hid.out ?_)
 refine Lib.hid ?_
 replace hE:=hE.out
 replace hb0:=hb0.out
 replace hb1:=hb1.out
 replace hb2:=hb2.out
 replace hp1:=hp1.out
 replace hbn1:=hbn1.out
 replace hs1:=hs1.out
 replace hn1:=hn1.out
 have hCT:=rcl1_CL p n N w.heap.size (w.heap.size+1) w1 hb0 hb1
 have hlw:(wipeL p n).length ≤ 3:=by unfold wipeL;rw [List.length_map];exact wds_len p n
 refine (then_LI _ _ _ F1 _ v1 _ w1 hp1 hCT hbn1 (fun j h => by rcases h with rfl | rfl;exact heap_lt hb0;exact heap_lt hb1) (by simp;omega)).mono ?_
 rintro e w' hR
 obtain ⟨v',F',rfl,hX,hp,hbn,hsub,hnF,hbq⟩:=hR.tail (G:=noF) (w.heap.size+1+1) hE (heap_lt hb2) (fun h => by rcases h with h | h | h;exact hn1 h;omega;omega) (fun j h => by rcases h with h | h | h;exact (hs1 j h).imp_left False.elim;exact .inr (by omega);exact .inr (by omega))
 have hbx:=hbq.trans hb2
 clear hbq hR
 clear hE hb0 hb1 hb2 hp1 hbn1 hs1 hn1 hCT hlw
 obtain ⟨y,a2,fn2,rfl,HFN,HX⟩:=tlI hp hX hbx hbn hsub hnF (by omega)
 obtain ⟨c0,c1,c2,c3,c4,c5,c6,cz,ll⟩:=sev_of hbx
 clear hX hbx hp hbn hsub hnF
 rcases HFN.out with rfl | ⟨g',caps',rfl⟩
 all_goals
  go_wp2
  clear c0 c1 c2 c3 c4 c5 c6 cz ll
  obtain ⟨hX,hB,hP⟩:=HX.out
  clear HX
  generalize (World.setCell _ (⟨w.heap.size+1+1,6,none⟩ : Addr) _) = Z at hX hB hP ⊢
  obtain ⟨c0,c1,c2,c3,c4,c5,c6,cz,ll⟩:=sev_of hB
  exact bodyPost_ret (by simp only [results,Tryz.results258,go_sem];simp [go_sem,c0,c1,c2,c3,c4,c5,c6]) rfl ⟨_,F',rfl,hX,hP⟩
theorem held1_yes (p:Pl) (n i:Int) (x:BitVec 64) (B1 B2 B3:Nat) (w:World) (hn1:n < 4611686018427387904) (k1:w.heap[B1]? = some (.cells #[.int .i64 n] 3 (0,0))) (k2:w.heap[B2]? = some (.cells #[.int .i64 i] 3 (0,0))) (hB:PBox B3 p w) (hx:nmB x n = true) :
  Calls Tryz.prog 267 #[.int .u64 (U x),.pointer (some ⟨B1,0,none⟩),.pointer (some ⟨B2,0,none⟩),.pointer (some ⟨B3,0,none⟩)] w (RetP (PT kB (.done true)) noF w):=by
 have d1:=cell_at (o:=0) k1 rfl
 have l1:=cell_lt d1
 have d2:=cell_at (o:=0) k2 rfl
 have l2:=cell_lt d2
 have ⟨c0,c1,c2,c3,c4,c5,lt⟩:=hB.plc
 clear k1 k2 hB
 have hnm:=fun W => hnames_any x n hn1 true (Lib.hid hx) W
 clear hx
 replace hnm:=Lib.hid hnm
 go_enter Tryz.func267,Tryz.ntmps267
 go_wp2_with (go_at_call 268;refine Hid.out ?_)
 refine Lib.hid ?_
 have ⟨hE,hb0,hW⟩:=al1 w (.cells #[.bool false,.int .i64 0,.int .i64 0,.int .u64 0,.int .u64 0,.nilFunc,.pointer none] 218)
 generalize (w.alloc (.cells #[.bool false,.int .i64 0,.int .i64 0,.int .u64 0,.int .u64 0,.nilFunc,.pointer none] 218)) = W at hE hb0 hW ⊢
 refine (hnm.out W).mono ?_
 rintro e w1 ⟨rfl,hx⟩
 replace d1:=ext_cell (ext_trans hE hx) d1
 replace d2:=ext_cell (ext_trans hE hx) d2
 replace c0:=ext_cell (ext_trans hE hx) c0
 replace c1:=ext_cell (ext_trans hE hx) c1
 replace c2:=ext_cell (ext_trans hE hx) c2
 replace c3:=ext_cell (ext_trans hE hx) c3
 replace c4:=ext_cell (ext_trans hE hx) c4
 replace c5:=ext_cell (ext_trans hE hx) c5
 replace l1:=cell_lt d1
 replace l2:=cell_lt d2
 replace lt:=cell_lt c0
 replace hb0:=(hx.block _ (heap_lt hb0)).trans hb0
 replace hE:=ext_trans hE hx
 clear hx hW hnm
 replace hE:=Lib.hid hE
 replace hb0:=Lib.hid hb0
 go_wp2_with (go_at_call 207;refine Hid.out ?_)
 refine Lib.hid ?_
 replace hE:=hE.out
 replace hb0:=hb0.out
 refine (doneB_PT true w1).mono ?_
 rintro e w' hR
 obtain ⟨v',F',rfl,hX,hp,hbn,hsub,hnF,hbq⟩:=hR.tail (G:=noF) (w.heap.size) hE (heap_lt hb0) (fun h => h) (fun _ h => h.elim)
 have hbx:=hbq.trans hb0
 clear hbq hR
 clear hE hb0 d1 l1 d2 l2 c0 c1 c2 c3 c4 c5 lt
 obtain ⟨y,a2,fn2,rfl,HFN,HX⟩:=tlB hp hX hbx hbn hsub hnF (by omega)
 obtain ⟨c0,c1,c2,c3,c4,c5,c6,cz,ll⟩:=sev_of hbx
 clear hX hbx hp hbn hsub hnF
 rcases HFN.out with rfl | ⟨g',caps',rfl⟩
 all_goals
  go_wp2
  clear c0 c1 c2 c3 c4 c5 c6 cz ll
  obtain ⟨hX,hB,hP⟩:=HX.out
  clear HX
  generalize (World.setCell _ (⟨w.heap.size,6,none⟩ : Addr) _) = Z at hX hB hP ⊢
  obtain ⟨c0,c1,c2,c3,c4,c5,c6,cz,ll⟩:=sev_of hB
  exact bodyPost_ret (by simp only [results,Tryz.results267,go_sem];simp [go_sem,c0,c1,c2,c3,c4,c5,c6]) rfl ⟨_,F',rfl,hX,hP⟩
theorem held1_last (p:Pl) (n i:Int) (x:BitVec 64) (B1 B2 B3:Nat) (w:World) (hn1:n < 4611686018427387904) (k1:w.heap[B1]? = some (.cells #[.int .i64 n] 3 (0,0))) (k2:w.heap[B2]? = some (.cells #[.int .i64 i] 3 (0,0))) (hB:PBox B3 p w) (ht:1 ≤ p.t ∧ p.t ≤ 16) (hi:i = p.t * 3 - 1) (hx:nmB x n = false) :
  Calls Tryz.prog 267 #[.int .u64 (U x),.pointer (some ⟨B1,0,none⟩),.pointer (some ⟨B2,0,none⟩),.pointer (some ⟨B3,0,none⟩)] w (RetP (PT kB (.done false)) noF w):=by
 have e1:wrap64 (p.t * 3) = p.t * 3:=by unfold wrap64;omega
 have e2:wrap64 (p.t * 3 - 1) = p.t * 3 - 1:=by unfold wrap64;omega
 subst hi
 have d1:=cell_at (o:=0) k1 rfl
 have l1:=cell_lt d1
 have d2:=cell_at (o:=0) k2 rfl
 have l2:=cell_lt d2
 have ⟨c0,c1,c2,c3,c4,c5,lt⟩:=hB.plc
 clear k1 k2 hB
 have hnm:=fun W => hnames_any x n hn1 false (Lib.hid hx) W
 clear hx
 replace hnm:=Lib.hid hnm
 go_enter Tryz.func267,Tryz.ntmps267
 go_wp2_with (go_at_call 268;refine Hid.out ?_)
 refine Lib.hid ?_
 have ⟨hE,hb0,hW⟩:=al1 w (.cells #[.bool false,.int .i64 0,.int .i64 0,.int .u64 0,.int .u64 0,.nilFunc,.pointer none] 218)
 generalize (w.alloc (.cells #[.bool false,.int .i64 0,.int .i64 0,.int .u64 0,.int .u64 0,.nilFunc,.pointer none] 218)) = W at hE hb0 hW ⊢
 refine (hnm.out W).mono ?_
 rintro e w1 ⟨rfl,hx⟩
 replace d1:=ext_cell (ext_trans hE hx) d1
 replace d2:=ext_cell (ext_trans hE hx) d2
 replace c0:=ext_cell (ext_trans hE hx) c0
 replace c1:=ext_cell (ext_trans hE hx) c1
 replace c2:=ext_cell (ext_trans hE hx) c2
 replace c3:=ext_cell (ext_trans hE hx) c3
 replace c4:=ext_cell (ext_trans hE hx) c4
 replace c5:=ext_cell (ext_trans hE hx) c5
 replace l1:=cell_lt d1
 replace l2:=cell_lt d2
 replace lt:=cell_lt c0
 replace hb0:=(hx.block _ (heap_lt hb0)).trans hb0
 replace hE:=ext_trans hE hx
 clear hx hW hnm
 replace hE:=Lib.hid hE
 replace hb0:=Lib.hid hb0
 go_wp2_with (go_at_call 207;refine Hid.out ?_)
 refine Lib.hid ?_
 replace hE:=hE.out
 replace hb0:=hb0.out
 refine (doneB_PT false w1).mono ?_
 rintro e w' hR
 obtain ⟨v',F',rfl,hX,hp,hbn,hsub,hnF,hbq⟩:=hR.tail (G:=noF) (w.heap.size) hE (heap_lt hb0) (fun h => h) (fun _ h => h.elim)
 have hbx:=hbq.trans hb0
 clear hbq hR
 clear hE hb0 d1 l1 d2 l2 c0 c1 c2 c3 c4 c5 lt e1 e2
 obtain ⟨y,a2,fn2,rfl,HFN,HX⟩:=tlB hp hX hbx hbn hsub hnF (by omega)
 obtain ⟨c0,c1,c2,c3,c4,c5,c6,cz,ll⟩:=sev_of hbx
 clear hX hbx hp hbn hsub hnF
 rcases HFN.out with rfl | ⟨g',caps',rfl⟩
 all_goals
  go_wp2
  clear c0 c1 c2 c3 c4 c5 c6 cz ll
  obtain ⟨hX,hB,hP⟩:=HX.out
  clear HX
  generalize (World.setCell _ (⟨w.heap.size,6,none⟩ : Addr) _) = Z at hX hB hP ⊢
  obtain ⟨c0,c1,c2,c3,c4,c5,c6,cz,ll⟩:=sev_of hB
  exact bodyPost_ret (by simp only [results,Tryz.results267,go_sem];simp [go_sem,c0,c1,c2,c3,c4,c5,c6]) rfl ⟨_,F',rfl,hX,hP⟩
theorem held1_more (p:Pl) (n i:Int) (x:BitVec 64) (tr:Tr Bool) (B1 B2 B3:Nat) (w:World) (hn1:n < 4611686018427387904) (k1:w.heap[B1]? = some (.cells #[.int .i64 n] 3 (0,0))) (k2:w.heap[B2]? = some (.cells #[.int .i64 i] 3 (0,0))) (hB:PBox B3 p w) (ht:1 ≤ p.t ∧ p.t ≤ 16) (hi0:0 ≤ i) (hi:i < p.t * 3 - 1) (hx:nmB x n = false) (hN:∀ W,Calls Tryz.prog 260 #[plV p,.int .i64 n,.int .i64 (i+1)] W (RetP (PT kB tr) noF W)) :
  Calls Tryz.prog 267 #[.int .u64 (U x),.pointer (some ⟨B1,0,none⟩),.pointer (some ⟨B2,0,none⟩),.pointer (some ⟨B3,0,none⟩)] w (RetP (PT kB tr) noF w):=by
 have e1:wrap64 (p.t * 3) = p.t * 3:=by unfold wrap64;omega
 have e2:wrap64 (p.t * 3 - 1) = p.t * 3 - 1:=by unfold wrap64;omega
 have e3:wrap64 (i+1) = i+1:=by unfold wrap64;omega
 have e4:¬ i = p.t * 3 - 1:=by omega
 replace hN:=Lib.hid hN
 have d1:=cell_at (o:=0) k1 rfl
 have l1:=cell_lt d1
 have d2:=cell_at (o:=0) k2 rfl
 have l2:=cell_lt d2
 have ⟨c0,c1,c2,c3,c4,c5,lt⟩:=hB.plc
 clear k1 k2 hB
 have hnm:=fun W => hnames_any x n hn1 false (Lib.hid hx) W
 clear hx
 replace hnm:=Lib.hid hnm
 go_enter Tryz.func267,Tryz.ntmps267
 go_wp2_with (go_at_call 268;refine Hid.out ?_)
 refine Lib.hid ?_
 have ⟨hE,hb0,hW⟩:=al1 w (.cells #[.bool false,.int .i64 0,.int .i64 0,.int .u64 0,.int .u64 0,.nilFunc,.pointer none] 218)
 generalize (w.alloc (.cells #[.bool false,.int .i64 0,.int .i64 0,.int .u64 0,.int .u64 0,.nilFunc,.pointer none] 218)) = W at hE hb0 hW ⊢
 refine (hnm.out W).mono ?_
 rintro e w1 ⟨rfl,hx⟩
 replace d1:=ext_cell (ext_trans hE hx) d1
 replace d2:=ext_cell (ext_trans hE hx) d2
 replace c0:=ext_cell (ext_trans hE hx) c0
 replace c1:=ext_cell (ext_trans hE hx) c1
 replace c2:=ext_cell (ext_trans hE hx) c2
 replace c3:=ext_cell (ext_trans hE hx) c3
 replace c4:=ext_cell (ext_trans hE hx) c4
 replace c5:=ext_cell (ext_trans hE hx) c5
 replace l1:=cell_lt d1
 replace l2:=cell_lt d2
 replace lt:=cell_lt c0
 replace hb0:=(hx.block _ (heap_lt hb0)).trans hb0
 replace hE:=ext_trans hE hx
 clear hx hW hnm
 replace hE:=Lib.hid hE
 replace hb0:=Lib.hid hb0
 go_wp2_with (go_at_call 260;refine Hid.out ?_)
 refine Lib.hid ?_
 replace hE:=hE.out
 replace hb0:=hb0.out
 refine (hN.out w1).mono ?_
 rintro e w' hR
 obtain ⟨v',F',rfl,hX,hp,hbn,hsub,hnF,hbq⟩:=hR.tail (G:=noF) (w.heap.size) hE (heap_lt hb0) (fun h => h) (fun _ h => h.elim)
 have hbx:=hbq.trans hb0
 clear hbq hR
 clear hE hb0 d1 l1 d2 l2 c0 c1 c2 c3 c4 c5 lt e1 e2 e3 e4 hN
 obtain ⟨y,a2,fn2,rfl,HFN,HX⟩:=tlB hp hX hbx hbn hsub hnF (by omega)
 obtain ⟨c0,c1,c2,c3,c4,c5,c6,cz,ll⟩:=sev_of hbx
 clear hX hbx hp hbn hsub hnF
 rcases HFN.out with rfl | ⟨g',caps',rfl⟩
 all_goals
  go_wp2
  clear c0 c1 c2 c3 c4 c5 c6 cz ll
  obtain ⟨hX,hB,hP⟩:=HX.out
  clear HX
  generalize (World.setCell _ (⟨w.heap.size,6,none⟩ : Addr) _) = Z at hX hB hP ⊢
  obtain ⟨c0,c1,c2,c3,c4,c5,c6,cz,ll⟩:=sev_of hB
  exact bodyPost_ret (by simp only [results,Tryz.results267,go_sem];simp [go_sem,c0,c1,c2,c3,c4,c5,c6]) rfl ⟨_,F',rfl,hX,hP⟩
theorem held1_CT0 (p:Pl) (n i:Int) (B1 B2 B3:Nat) (w:World) (hn1:n < 4611686018427387904) (k1:w.heap[B1]? = some (.cells #[.int .i64 n] 3 (0,0))) (k2:w.heap[B2]? = some (.cells #[.int .i64 i] 3 (0,0))) (hB:PBox B3 p w) (ht:1 ≤ p.t ∧ p.t ≤ 16) (hi:i = p.t * 3 - 1) :
  CT kU kB (fun x => if nmB x n then .done true else .done false) (fun j => j = B1 ∨ j = B2 ∨ j = B3) (.func (.func 267) #[] #[.pointer (some ⟨B1,0,none⟩),.pointer (some ⟨B2,0,none⟩),.pointer (some ⟨B3,0,none⟩)]) w:=by
 refine ⟨_,_,rfl,enters_of Tryz.func267 (by kernel_rfl) rfl,fun x w' ha => ?_⟩
 have k1':=(ha B1 (.inl rfl)).trans k1
 have k2':=(ha B2 (.inr (.inl rfl))).trans k2
 have hB':PBox B3 p w':=(ha B3 (.inr (.inr rfl))).trans hB
 cases hx:nmB x n with
 | true =>
  simp only [hx,↓reduceIte]
  exact (held1_yes p n i x B1 B2 B3 w' hn1 k1' k2' hB' hx).mono fun _ _ h => h.mono fun _ h => h.elim
 | false =>
  simp only [hx,Bool.false_eq_true,↓reduceIte]
  exact (held1_last p n i x B1 B2 B3 w' hn1 k1' k2' hB' ht hi hx).mono fun _ _ h => h.mono fun _ h => h.elim
theorem held1_CT1 (p:Pl) (n i:Int) (tr:Tr Bool) (B1 B2 B3:Nat) (w:World) (hn1:n < 4611686018427387904) (k1:w.heap[B1]? = some (.cells #[.int .i64 n] 3 (0,0))) (k2:w.heap[B2]? = some (.cells #[.int .i64 i] 3 (0,0))) (hB:PBox B3 p w) (ht:1 ≤ p.t ∧ p.t ≤ 16) (hi0:0 ≤ i) (hi:i < p.t * 3 - 1) (hN:∀ W,Calls Tryz.prog 260 #[plV p,.int .i64 n,.int .i64 (i+1)] W (RetP (PT kB tr) noF W)) :
  CT kU kB (fun x => if nmB x n then .done true else tr) (fun j => j = B1 ∨ j = B2 ∨ j = B3) (.func (.func 267) #[] #[.pointer (some ⟨B1,0,none⟩),.pointer (some ⟨B2,0,none⟩),.pointer (some ⟨B3,0,none⟩)]) w:=by
 refine ⟨_,_,rfl,enters_of Tryz.func267 (by kernel_rfl) rfl,fun x w' ha => ?_⟩
 have k1':=(ha B1 (.inl rfl)).trans k1
 have k2':=(ha B2 (.inr (.inl rfl))).trans k2
 have hB':PBox B3 p w':=(ha B3 (.inr (.inr rfl))).trans hB
 cases hx:nmB x n with
 | true =>
  simp only [hx,↓reduceIte]
  exact (held1_yes p n i x B1 B2 B3 w' hn1 k1' k2' hB' hx).mono fun _ _ h => h.mono fun _ h => h.elim
 | false =>
  simp only [hx,Bool.false_eq_true,↓reduceIte]
  exact (held1_more p n i x tr B1 B2 B3 w' hn1 k1' k2' hB' ht hi0 hi hx hN).mono fun _ _ h => h.mono fun _ h => h.elim
theorem heldW (p:Pl) (n i:Int) (tr:Tr Bool) (w:World) (hi0:0 ≤ i) (hi1:i < 1000) (hN:∀ v F W,PBox w.heap.size p W → W.heap[w.heap.size+1]? = some (.cells #[.int .i64 n] 3 (0,0)) → W.heap[w.heap.size+1+1]? = some (.cells #[.int .i64 i] 3 (0,0)) → PT kU (getT (p.hazF (i / 3) (i % 3))) F v W → Bnd F W → Calls Tryz.prog 205 #[v,.func (.func 267) #[] #[.pointer (some ⟨w.heap.size+1,0,none⟩),.pointer (some ⟨w.heap.size+1+1,0,none⟩),.pointer (some ⟨w.heap.size,0,none⟩)]] W (RetP (PT kB tr) (fun j => F j ∨ j = w.heap.size ∨ j = w.heap.size+1 ∨ j = w.heap.size+1+1) W)) :
  Calls Tryz.prog 260 #[plV p,.int .i64 n,.int .i64 i] w (RetP (PT kB tr) noF w):=by
 have e1:i.tdiv 3 = i / 3:=Int.tdiv_eq_ediv_of_nonneg hi0
 have e2:i.tmod 3 = i % 3:=Int.tmod_eq_emod_of_nonneg hi0
 have e3:wrap64 (i / 3) = i / 3:=by unfold wrap64;omega
 have e4:wrap64 (i % 3) = i % 3:=by unfold wrap64;omega
 replace hN:=Lib.hid hN
 go_enter Tryz.func260,Tryz.ntmps260
 go_wp2_with (go_at_call 54;refine Hid.out ?_)
 refine Lib.hid ?_
 have ⟨hE,hb0,hb1,hb2,hb3,hW⟩:=al4 w (.cells #[.int .i64 p.n,.int .i64 p.t,.int .i64 p.r,.int .i64 p.d,.int .i64 p.b,.int .i64 p.g] 23) (.cells #[.int .i64 n] 3) (.cells #[.int .i64 i] 3) (.cells #[.bool false,.int .i64 0,.int .i64 0,.int .u64 0,.int .u64 0,.nilFunc,.pointer none] 218)
 generalize ((((w.alloc (.cells #[.int .i64 p.n,.int .i64 p.t,.int .i64 p.r,.int .i64 p.d,.int .i64 p.b,.int .i64 p.g] 23)).alloc (.cells #[.int .i64 n] 3)).alloc (.cells #[.int .i64 i] 3)).alloc (.cells #[.bool false,.int .i64 0,.int .i64 0,.int .u64 0,.int .u64 0,.nilFunc,.pointer none] 218)) = W at hE hb0 hb1 hb2 hb3 hW ⊢
 refine (hazard_any p (i / 3) (i % 3) W).mono ?_
 rintro e w0 ⟨rfl,hx⟩
 replace hE:=ext_trans hE hx
 replace hb0:=(hx.block _ (heap_lt hb0)).trans hb0
 replace hb1:=(hx.block _ (heap_lt hb1)).trans hb1
 replace hb2:=(hx.block _ (heap_lt hb2)).trans hb2
 replace hb3:=(hx.block _ (heap_lt hb3)).trans hb3
 clear hx hW
 replace hE:=Lib.hid hE
 replace hb0:=Lib.hid hb0
 replace hb1:=Lib.hid hb1
 replace hb2:=Lib.hid hb2
 replace hb3:=Lib.hid hb3
 go_wp2_with (go_at_call 117;refine Hid.out ?_)
 refine Lib.hid ?_
 refine (get_PT (p.hazF (i / 3) (i % 3)) w0).mono ?_
 rintro e w1 ⟨v1,F1,rfl,hx,hp1,hbn1,hsub⟩
 replace hE:=hE.out
 replace hb0:=hb0.out
 replace hb1:=hb1.out
 replace hb2:=hb2.out
 replace hb3:=hb3.out
 have hn1:¬ F1 (w.heap.size+1+1+1):=fun h => (hsub _ h).elim (fun h => h) fun h => by have:=heap_lt hb3;omega
 have hs1:∀ j,F1 j → noF j ∨ w.heap.size ≤ j:=fun j hj => (hsub j hj).imp_right fun h => Nat.le_trans hE.size h
 replace hE:=ext_trans hE hx
 replace hb0:=(hx.block _ (heap_lt hb0)).trans hb0
 replace hb1:=(hx.block _ (heap_lt hb1)).trans hb1
 replace hb2:=(hx.block _ (heap_lt hb2)).trans hb2
 replace hb3:=(hx.block _ (heap_lt hb3)).trans hb3
 clear hx hsub
 replace hE:=Lib.hid hE
 replace hb0:=Lib.hid hb0
 replace hb1:=Lib.hid hb1
 replace hb2:=Lib.hid hb2
 replace hb3:=Lib.hid hb3
 replace hp1:=Lib.hid hp1
 replace hbn1:=Lib.hid hbn1
 replace hs1:=Lib.hid hs1
 replace hn1:=Lib.hid hn1
 go_wp2_with (go_at_call 205;refine Hid.out ?_)
 refine Lib.hid ?_
 replace hE:=hE.out
 replace hb0:=hb0.out
 replace hb1:=hb1.out
 replace hb2:=hb2.out
 replace hb3:=hb3.out
 replace hp1:=hp1.out
 replace hbn1:=hbn1.out
 replace hs1:=hs1.out
 replace hn1:=hn1.out
 refine (hN.out v1 F1 w1 hb0 hb1 hb2 hp1 hbn1).mono ?_
 rintro e w' hR
 obtain ⟨v',F',rfl,hX,hp,hbn,hsub,hnF,hbq⟩:=hR.tail (G:=noF) (w.heap.size+1+1+1) hE (heap_lt hb3) (fun h => by rcases h with h | h | h | h;exact hn1 h;omega;omega;omega) (fun j h => by rcases h with h | h | h | h;exact hs1 j h;exact .inr (by omega);exact .inr (by omega);exact .inr (by omega))
 have hbx:=hbq.trans hb3
 clear hbq hR
 clear hE hb0 hb1 hb2 hb3 hp1 hbn1 hs1 hn1 hN e1 e2 e3 e4
 obtain ⟨y,a2,fn2,rfl,HFN,HX⟩:=tlB hp hX hbx hbn hsub hnF (by omega)
 obtain ⟨c0,c1,c2,c3,c4,c5,c6,cz,ll⟩:=sev_of hbx
 clear hX hbx hp hbn hsub hnF
 rcases HFN.out with rfl | ⟨g',caps',rfl⟩
 all_goals
  go_wp2
  clear c0 c1 c2 c3 c4 c5 c6 cz ll
  obtain ⟨hX,hB,hP⟩:=HX.out
  clear HX
  generalize (World.setCell _ (⟨w.heap.size+1+1+1,6,none⟩ : Addr) _) = Z at hX hB hP ⊢
  obtain ⟨c0,c1,c2,c3,c4,c5,c6,cz,ll⟩:=sev_of hB
  exact bodyPost_ret (by simp only [results,Tryz.results260,go_sem];simp [go_sem,c0,c1,c2,c3,c4,c5,c6]) rfl ⟨_,F',rfl,hX,hP⟩
theorem heldFrom_PT (p:Pl) (hp:p.ok) (n:Int) (hn1:n < 4611686018427387904):∀ (k:Nat) (i:Int),0 ≤ i → i+k = p.t * 3 - 1 → ∀ (w:World),Calls Tryz.prog 260 #[plV p,.int .i64 n,.int .i64 i] w (RetP (PT kB (hldT p n k i)) noF w)
 | 0,i,h0,h1,w => heldW p n i _ w h0 (by have:=hp.2.1;omega) fun v F W hB k1 k2 hP hF => (then_UB _ _ F _ v _ W hP (held1_CT0 p n i (w.heap.size+1) (w.heap.size+1+1) w.heap.size W hn1 k1 k2 hB hp.2.1 (by omega)) hF (fun j h => by rcases h with rfl | rfl | rfl;exact heap_lt k1;exact heap_lt k2;exact heap_lt hB)).mono fun _ _ h => h.mono fun j h => by rcases h with h | h | h | h;exact .inl h;exact .inr (.inr (.inl h));exact .inr (.inr (.inr h));exact .inr (.inl h)
 | k+1,i,h0,h1,w => heldW p n i _ w h0 (by have:=hp.2.1;omega) fun v F W hB k1 k2 hP hF => (then_UB _ _ F _ v _ W hP (held1_CT1 p n i (hldT p n k (i+1)) (w.heap.size+1) (w.heap.size+1+1) w.heap.size W hn1 k1 k2 hB hp.2.1 h0 (by omega) (fun W => heldFrom_PT p hp n hn1 k (i+1) (by omega) (by omega) W)) hF (fun j h => by rcases h with rfl | rfl | rfl;exact heap_lt k1;exact heap_lt k2;exact heap_lt hB)).mono fun _ _ h => h.mono fun j h => by rcases h with h | h | h | h;exact .inl h;exact .inr (.inr (.inl h));exact .inr (.inr (.inr h));exact .inr (.inl h)
theorem hheld_PT (p:Pl) (hp:p.ok) (n:Int) (hn1:n < 4611686018427387904) (w:World):Calls Tryz.prog 254 #[plV p,.int .i64 n] w (RetP (PT kB (hldT p n (p.t * 3 - 1).toNat 0)) noF w):=by
 have ht:=hp.2.1
 have hN:=heldFrom_PT p hp n hn1 (p.t * 3 - 1).toNat 0 (by omega) (by omega)
 replace hN:=Lib.hid hN
 go_enter Tryz.func254,Tryz.ntmps254
 go_wp2_with (go_at_call 260;refine Hid.out ?_)
 refine Lib.hid ?_
 have ⟨hE,hb0,hb1,hW⟩:=al2 w (.cells #[.int .i64 p.n,.int .i64 p.t,.int .i64 p.r,.int .i64 p.d,.int .i64 p.b,.int .i64 p.g] 23) (.cells #[.bool false,.int .i64 0,.int .i64 0,.int .u64 0,.int .u64 0,.nilFunc,.pointer none] 218)
 generalize ((w.alloc (.cells #[.int .i64 p.n,.int .i64 p.t,.int .i64 p.r,.int .i64 p.d,.int .i64 p.b,.int .i64 p.g] 23)).alloc (.cells #[.bool false,.int .i64 0,.int .i64 0,.int .u64 0,.int .u64 0,.nilFunc,.pointer none] 218)) = W at hE hb0 hb1 hW ⊢
 replace hW:=Lib.hid hW
 refine (hN.out W).mono ?_
 rintro e w' hR
 obtain ⟨v',F',rfl,hX,hp,hbn,hsub,hnF,hbq⟩:=hR.tail (G:=noF) (w.heap.size+1) hE (heap_lt hb1) (fun h => h) (fun _ h => h.elim)
 have hbx:=hbq.trans hb1
 clear hbq hR
 clear hE hb0 hb1 hW hN
 obtain ⟨y,a2,fn2,rfl,HFN,HX⟩:=tlB hp hX hbx hbn hsub hnF (by omega)
 obtain ⟨c0,c1,c2,c3,c4,c5,c6,cz,ll⟩:=sev_of hbx
 clear hX hbx hp hbn hsub hnF
 rcases HFN.out with rfl | ⟨g',caps',rfl⟩
 all_goals
  go_wp2
  clear c0 c1 c2 c3 c4 c5 c6 cz ll
  obtain ⟨hX,hB,hP⟩:=HX.out
  clear HX
  generalize (World.setCell _ (⟨w.heap.size+1,6,none⟩ : Addr) _) = Z at hX hB hP ⊢
  obtain ⟨c0,c1,c2,c3,c4,c5,c6,cz,ll⟩:=sev_of hB
  exact bodyPost_ret (by simp only [results,Tryz.results254,go_sem];simp [go_sem,c0,c1,c2,c3,c4,c5,c6]) rfl ⟨_,F',rfl,hX,hP⟩
end Go.Proofs.YthjklbonebnekaaGreat

