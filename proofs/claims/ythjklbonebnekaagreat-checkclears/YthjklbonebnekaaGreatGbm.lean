/-
  What the call of New comes to. Conditions: those of each theorem.
-/
import Derived.Test.YthjklbonebnekaaGreatGbi
import Derived.Test.YthjklbonebnekaaGreatGbk
import Derived.Test.YthjklbonebnekaaGreatGbl
set_option maxRecDepth 8000
set_option maxHeartbeats 4000000
namespace Go.Proofs.YthjklbonebnekaaGreat
open Go Go.RowKit
theorem nw1_PT (p:Pl) (N:Nat) (B1:Nat) (w:World)  (k1:PBox B1 p w) :
  Calls Tryz.prog 64 #[.pointer (some ⟨B1,0,none⟩)] w (RetP (PT kI (popT p N)) noF w):=by
 have qk1:=heap_lt k1
 have ⟨c0,c1,c2,c3,c4,c5,lt⟩:=PBox.plc k1
 replace k1:=Lib.hid k1
 go_enter Tryz.func64,Tryz.ntmps64
 go_wp2_with (go_at_call 65;refine Hid.out ?_)
 refine Lib.hid ?_
 have ⟨hE,hb0,hW⟩:=al1 w (.cells #[.int .i64 0,.int .i64 0,.int .i64 0,.int .u64 0,.int .u64 0,.nilFunc,.pointer none] 62)
 generalize (w.alloc (.cells #[.int .i64 0,.int .i64 0,.int .i64 0,.int .u64 0,.int .u64 0,.nilFunc,.pointer none] 62)) = W at hE hb0 hW ⊢
 replace k1:=(hE.block _ (heap_lt k1.out)).trans k1.out
 clear hW
 clear c0 c1 c2 c3 c4 c5 lt
 refine (pop_PT p N W).mono ?_
 rintro e w' hR
 obtain ⟨v',F',rfl,hX,hp,hbn,hsub,hnF,hbq⟩:=hR.tail (G:=noF) (w.heap.size) hE (heap_lt hb0) (fun h => h) (fun _ h => h.elim)
 have hbx:=hbq.trans hb0
 clear hbq hR
 clear hE hb0 k1
 obtain ⟨y,a2,fn2,rfl,HFN,HX⟩:=tlI hp hX hbx hbn hsub hnF (by omega)
 obtain ⟨c0,c1,c2,c3,c4,c5,c6,cz,ll⟩:=sev_of hbx
 clear hX hbx hp hbn hsub hnF
 rcases HFN.out with rfl | ⟨g',caps',rfl⟩
 all_goals
  go_wp2
  clear c0 c1 c2 c3 c4 c5 c6 cz ll
  obtain ⟨hX,hB,hP⟩:=HX.out
  clear HX
  generalize (World.setCell _ (⟨w.heap.size,6,none⟩ : Addr) _) = Z at hX hB hP ⊢
  obtain ⟨c0,c1,c2,c3,c4,c5,c6,cz,ll⟩:=sev_of hB
  exact bodyPost_ret (by simp only [results,Tryz.results64,go_sem];simp [go_sem,c0,c1,c2,c3,c4,c5,c6]) rfl ⟨_,F',rfl,hX,hP⟩
theorem nw1_AT (p:Pl) (N:Nat) (B1:Nat) (w:World) (k1:PBox B1 p w):AT (popT p N) (fun j => j = B1) (.func (.func 64) #[] #[.pointer (some ⟨B1,0,none⟩)]) w:=
 ⟨_,_,rfl,enters_of Tryz.func64 (by kernel_rfl) rfl,fun w' ha => (nw1_PT p N B1 w' ((ha B1 rfl).trans k1)).mono fun _ _ h => h.mono fun _ h => h.elim⟩
theorem nw21_any (s:St) (kd:Int) (B1:Nat) (w:World) (k1:w.heap[B1]? = some (.cells #[.int .i64 kd] 3 (0,0))) :
  Calls Tryz.prog 70 #[stV s,.pointer (some ⟨B1,0,none⟩)] w (Ret (stV (liveF kd s)) w):=by
 obtain ⟨g0,m0,j0⟩:=s
 show Calls Tryz.prog 70 #[.agg #[.int .i64 g0,.int .i64 m0,.int .i64 j0],.pointer (some ⟨B1,0,none⟩)] w (Ret (.agg #[.int .i64 g0,.int .i64 1,.int .i64 kd]) w)
 have d1:=cell_at (o:=0) k1 rfl
 have l1:=cell_lt d1
 clear k1
 go_enter Tryz.func70,Tryz.ntmps70
 go_wp2_with (go_at_call 62;refine (live_any ⟨g0,m0,j0⟩ kd _).mono ?_;rintro e w' ⟨rfl,hx⟩;refine Hid.out ?_)
 refine Lib.hid ?_
 have hblk:=(hx.block (w.heap.size+1) (by simp)).trans (heap_at (w.alloc (.cells #[.int .i64 g0,.int .i64 m0,.int .i64 j0] 56)) _ _ (by simp))
 have hE:Ext w w':=by
  refine ext_trans ?_ hx
  repeat (first | exact ext_refl _ | apply ext_alloc)
 have hX:=put3_ext (b:=w.heap.size+1) (.int .i64 g0) (.int .i64 1) (.int .i64 kd) hE (by omega)
 have hB:=put3_block (.int .i64 g0) (.int .i64 1) (.int .i64 kd) hblk
 have c0:=cell_at (o:=0) hblk rfl
 have c1:=cell_at (o:=1) hblk rfl
 have c2:=cell_at (o:=2) hblk rfl
 have cz:∀ o,w'.frozen? ⟨w.heap.size+1,o,none⟩ = false:=fun _ => free_at hblk
 have ll:=heap_lt hblk
 rw [put3] at hX hB
 have HX:=Lib.hid hX
 have HB:=Lib.hid hB
 clear hX hB hx hE hblk d1 l1
 go_wp2
 clear c0 c1 c2 cz ll
 replace HX:=HX.out
 replace HB:=HB.out
 generalize (World.setCell _ (⟨w.heap.size+1,2,none⟩ : Addr) _) = Z at HB HX ⊢
 have c0:=cell_at (o:=0) HB rfl
 have c1:=cell_at (o:=1) HB rfl
 have c2:=cell_at (o:=2) HB rfl
 exact bodyPost_ret (by simp only [results,Tryz.results70,go_sem];simp [go_sem,c0,c1,c2]) rfl (Ret.mk HX)
theorem nw21_FS (kd:Int) (B1:Nat) (w:World) (k1:w.heap[B1]? = some (.cells #[.int .i64 kd] 3 (0,0))):FS (liveF kd) (fun j => j = B1) (.func (.func 70) #[] #[.pointer (some ⟨B1,0,none⟩)]) w:=
 ⟨_,_,rfl,enters_of Tryz.func70 (by kernel_rfl) rfl,fun s w' ha => nw21_any s kd B1 w' ((ha B1 rfl).trans k1)⟩
theorem nw22_PT (n:Int) (s:St) (B1:Nat) (w:World)  (k1:w.heap[B1]? = some (.cells #[.int .i64 n] 3 (0,0))) :
  Calls Tryz.prog 73 #[stV s,.pointer (some ⟨B1,0,none⟩)] w (RetP (PT kG (.done ⟨n,s.g,0⟩)) noF w):=by
 obtain ⟨g0,m0,j0⟩:=s
 show Calls Tryz.prog 73 #[.agg #[.int .i64 g0,.int .i64 m0,.int .i64 j0],.pointer (some ⟨B1,0,none⟩)] w (RetP (PT kG (.done ⟨n,g0,0⟩)) noF w)
 have qk1:=heap_lt k1
 have d1_0:=cell_at (o:=0) k1 rfl
 have e1:=cell_lt d1_0
 replace k1:=Lib.hid k1
 go_enter Tryz.func73,Tryz.ntmps73
 go_wp2_with (go_at_call 69;refine Hid.out ?_)
 refine Lib.hid ?_
 have ⟨hE,hb0,hb1,hW⟩:=al2 w (.cells #[.int .i64 g0,.int .i64 m0,.int .i64 j0] 56) (.cells #[.int .i64 0,.int .i64 0,.int .i64 0,.int .i64 0,.int .i64 0,.int .u64 0,.int .u64 0,.nilFunc,.pointer none] 46)
 generalize ((w.alloc (.cells #[.int .i64 g0,.int .i64 m0,.int .i64 j0] 56)).alloc (.cells #[.int .i64 0,.int .i64 0,.int .i64 0,.int .i64 0,.int .i64 0,.int .u64 0,.int .u64 0,.nilFunc,.pointer none] 46)) = W at hE hb0 hb1 hW ⊢
 replace k1:=(hE.block _ (heap_lt k1.out)).trans k1.out
 clear hW
 clear d1_0 e1
 refine (doneG_PT ⟨n,g0,0⟩ W).mono ?_
 rintro e w' hR
 obtain ⟨v',F',rfl,hX,hp,hbn,hsub,hnF,hbq⟩:=hR.tail (G:=noF) (w.heap.size+1) hE (heap_lt hb1) (fun h => h) (fun _ h => h.elim)
 have hbx:=hbq.trans hb1
 clear hbq hR
 clear hE hb0 hb1 k1
 obtain ⟨y0,y1,y2,a2,fn2,rfl,HFN,HX⟩:=tlG hp hX hbx hbn hsub hnF (by omega)
 obtain ⟨c0,c1,c2,c3,c4,c5,c6,c7,c8,cz,ll⟩:=nin_of hbx
 clear hX hbx hp hbn hsub hnF
 rcases HFN.out with rfl | ⟨g',caps',rfl⟩
 all_goals
  go_wp2
  clear c0 c1 c2 c3 c4 c5 c6 c7 c8 cz ll
  obtain ⟨hX,hB,hP⟩:=HX.out
  clear HX
  generalize (World.setCell _ (⟨w.heap.size+1,8,none⟩ : Addr) _) = Z at hX hB hP ⊢
  obtain ⟨c0,c1,c2,c3,c4,c5,c6,c7,c8,cz,ll⟩:=nin_of hB
  exact bodyPost_ret (by simp only [results,Tryz.results73,go_sem];simp [go_sem,c0,c1,c2,c3,c4,c5,c6,c7,c8]) rfl ⟨_,F',rfl,hX,hP⟩
theorem nw22_CT (n:Int) (B1:Nat) (w:World)  (k1:w.heap[B1]? = some (.cells #[.int .i64 n] 3 (0,0))) :
  CT kS kG (fun s => .done ⟨n,s.g,0⟩) (fun j => j = B1) (.func (.func 73) #[] #[.pointer (some ⟨B1,0,none⟩)]) w:=by
 refine ⟨_,_,rfl,enters_of Tryz.func73 (by kernel_rfl) rfl,fun s w' ha => ?_⟩
 exact (nw22_PT n s B1 w'  ((ha B1 (rfl)).trans k1)).mono fun _ _ h => h.mono fun j h => h.elim
theorem nw2_PT (p:Pl) (kd n:Int) (B1 B2:Nat) (w:World)  (k1:w.heap[B1]? = some (.cells #[.int .i64 kd] 3 (0,0))) (k2:PBox B2 p w) :
  Calls Tryz.prog 68 #[.int .i64 n,.pointer (some ⟨B1,0,none⟩),.pointer (some ⟨B2,0,none⟩)] w (RetP (PT kG (new1T p kd n)) (fun j => j = B1 ∨ j = B2) w):=by
 by_cases hn:n = -1
 ·subst hn
  have eT:new1T p kd (-1) = .done ⟨-1,0,4⟩:=by unfold new1T;rw [if_pos rfl]
  rw [eT]
  clear eT
  have qk1:=heap_lt k1
  have d1_0:=cell_at (o:=0) k1 rfl
  have e1:=cell_lt d1_0
  have qk2:=heap_lt k2
  have ⟨c0,c1,c2,c3,c4,c5,lt⟩:=PBox.plc k2
  replace k1:=Lib.hid k1
  replace k2:=Lib.hid k2
  go_enter Tryz.func68,Tryz.ntmps68
  go_wp2_with (go_at_call 69;refine Hid.out ?_)
  refine Lib.hid ?_
  have ⟨hE,hb0,hb1,hW⟩:=al2 w (.cells #[.int .i64 (-1)] 3) (.cells #[.int .i64 0,.int .i64 0,.int .i64 0,.int .i64 0,.int .i64 0,.int .u64 0,.int .u64 0,.nilFunc,.pointer none] 46)
  generalize ((w.alloc (.cells #[.int .i64 (-1)] 3)).alloc (.cells #[.int .i64 0,.int .i64 0,.int .i64 0,.int .i64 0,.int .i64 0,.int .u64 0,.int .u64 0,.nilFunc,.pointer none] 46)) = W at hE hb0 hb1 hW ⊢
  replace k1:=(hE.block _ (heap_lt k1.out)).trans k1.out
  replace k2:=(hE.block _ (heap_lt k2.out)).trans k2.out
  clear hW
  clear d1_0 e1 c0 c1 c2 c3 c4 c5 lt
  refine (doneG_PT ⟨-1,0,4⟩ W).mono ?_
  rintro e w' hR
  obtain ⟨v',F',rfl,hX,hp,hbn,hsub,hnF,hbq⟩:=hR.tail (G:=(fun j => j = B1 ∨ j = B2)) (w.heap.size+1) hE (heap_lt hb1) (fun h => h) (fun _ h => h.elim)
  have hbx:=hbq.trans hb1
  clear hbq hR
  clear hE hb0 hb1 k1 k2
  obtain ⟨y0,y1,y2,a2,fn2,rfl,HFN,HX⟩:=tlG hp hX hbx hbn hsub hnF (by omega)
  obtain ⟨c0,c1,c2,c3,c4,c5,c6,c7,c8,cz,ll⟩:=nin_of hbx
  clear hX hbx hp hbn hsub hnF
  rcases HFN.out with rfl | ⟨g',caps',rfl⟩
  all_goals
   go_wp2
   clear c0 c1 c2 c3 c4 c5 c6 c7 c8 cz ll
   obtain ⟨hX,hB,hP⟩:=HX.out
   clear HX
   generalize (World.setCell _ (⟨w.heap.size+1,8,none⟩ : Addr) _) = Z at hX hB hP ⊢
   obtain ⟨c0,c1,c2,c3,c4,c5,c6,c7,c8,cz,ll⟩:=nin_of hB
   exact bodyPost_ret (by simp only [results,Tryz.results68,go_sem];simp [go_sem,c0,c1,c2,c3,c4,c5,c6,c7,c8]) rfl ⟨_,F',rfl,hX,hP⟩
 ·have eT:new1T p kd n = (becT p n (liveF kd)).bind fun s => .done ⟨n,s.g,0⟩:=by unfold new1T;rw [if_neg hn]
  rw [eT]
  clear eT
  have qk1:=heap_lt k1
  have d1_0:=cell_at (o:=0) k1 rfl
  have e1:=cell_lt d1_0
  have qk2:=heap_lt k2
  have ⟨c0,c1,c2,c3,c4,c5,lt⟩:=PBox.plc k2
  replace k1:=Lib.hid k1
  replace k2:=Lib.hid k2
  go_enter Tryz.func68,Tryz.ntmps68
  go_wp2_with (go_at_call 72;refine Hid.out ?_)
  refine Lib.hid ?_
  have ⟨hE,hb0,hb1,hW⟩:=al2 w (.cells #[.int .i64 n] 3) (.cells #[.int .i64 0,.int .i64 0,.int .i64 0,.int .i64 0,.int .i64 0,.int .u64 0,.int .u64 0,.nilFunc,.pointer none] 46)
  generalize ((w.alloc (.cells #[.int .i64 n] 3)).alloc (.cells #[.int .i64 0,.int .i64 0,.int .i64 0,.int .i64 0,.int .i64 0,.int .u64 0,.int .u64 0,.nilFunc,.pointer none] 46)) = W at hE hb0 hb1 hW ⊢
  replace k1:=(hE.block _ (heap_lt k1.out)).trans k1.out
  replace k2:=(hE.block _ (heap_lt k2.out)).trans k2.out
  clear hW
  clear d1_0 e1 c0 c1 c2 c3 c4 c5 lt
  have hFS:=nw21_FS kd B1 W k1
  refine (bec_PT p n (liveF kd) _ _ _ W hFS (fun j h => by subst h;exact heap_lt k1)).mono ?_
  rintro e w1 ⟨v1,F1,rfl,hx,hp1,hbn1,hsub⟩
  have hn1:¬ F1 (w.heap.size+1):=fun h => (hsub _ h).elim (fun h => by omega) fun h => by have:=heap_lt hb1;omega
  have hs1:∀ j,F1 j → (fun j => j = B1) j ∨ w.heap.size ≤ j:=fun j hj => (hsub j hj).elim .inl fun h => .inr (Nat.le_trans hE.size h)
  replace hE:=ext_trans hE hx
  replace hb0:=(hx.block _ (heap_lt hb0)).trans hb0
  replace hb1:=(hx.block _ (heap_lt hb1)).trans hb1
  replace k1:=(hx.block _ (heap_lt k1)).trans k1
  replace k2:=(hx.block _ (heap_lt k2)).trans k2
  clear hx hsub
  clear hFS
  replace hE:=Lib.hid hE
  replace hb0:=Lib.hid hb0
  replace hb1:=Lib.hid hb1
  replace k1:=Lib.hid k1
  replace k2:=Lib.hid k2
  replace hp1:=Lib.hid hp1
  replace hbn1:=Lib.hid hbn1
  replace hs1:=Lib.hid hs1
  replace hn1:=Lib.hid hn1
  go_wp2_with (go_at_call 71;refine Hid.out ?_)
  refine Lib.hid ?_
  replace hE:=hE.out
  replace hb0:=hb0.out
  replace hb1:=hb1.out
  replace k1:=k1.out
  replace k2:=k2.out
  replace hp1:=hp1.out
  replace hbn1:=hbn1.out
  replace hs1:=hs1.out
  replace hn1:=hn1.out
  have hCT:=nw22_CT n w.heap.size w1 hb0
  refine (then_SG _ _ F1 _ v1 _ w1 hp1 hCT hbn1 (fun j h => by subst h;exact heap_lt hb0)).mono ?_
  rintro e w' hR
  obtain ⟨v',F',rfl,hX,hp,hbn,hsub,hnF,hbq⟩:=hR.tail (G:=(fun j => j = B1 ∨ j = B2)) (w.heap.size+1) hE (heap_lt hb1) (fun h => by rcases h with h | h;exact hn1 h;omega) (fun j h => by rcases h with h | h;exact (hs1 j h).imp_left .inl;exact .inr (by omega))
  have hbx:=hbq.trans hb1
  clear hbq hR
  clear hE hb0 hb1 k1 k2 hp1 hbn1 hs1 hn1 hCT
  obtain ⟨y0,y1,y2,a2,fn2,rfl,HFN,HX⟩:=tlG hp hX hbx hbn hsub hnF (by omega)
  obtain ⟨c0,c1,c2,c3,c4,c5,c6,c7,c8,cz,ll⟩:=nin_of hbx
  clear hX hbx hp hbn hsub hnF
  rcases HFN.out with rfl | ⟨g',caps',rfl⟩
  all_goals
   go_wp2
   clear c0 c1 c2 c3 c4 c5 c6 c7 c8 cz ll
   obtain ⟨hX,hB,hP⟩:=HX.out
   clear HX
   generalize (World.setCell _ (⟨w.heap.size+1,8,none⟩ : Addr) _) = Z at hX hB hP ⊢
   obtain ⟨c0,c1,c2,c3,c4,c5,c6,c7,c8,cz,ll⟩:=nin_of hB
   exact bodyPost_ret (by simp only [results,Tryz.results68,go_sem];simp [go_sem,c0,c1,c2,c3,c4,c5,c6,c7,c8]) rfl ⟨_,F',rfl,hX,hP⟩
theorem nw2_CT (p:Pl) (kd:Int) (B1 B2:Nat) (w:World)  (k1:w.heap[B1]? = some (.cells #[.int .i64 kd] 3 (0,0))) (k2:PBox B2 p w) :
  CT kI kG (fun n => new1T p kd n) (fun j => j = B1 ∨ j = B2) (.func (.func 68) #[] #[.pointer (some ⟨B1,0,none⟩),.pointer (some ⟨B2,0,none⟩)]) w:=by
 refine ⟨_,_,rfl,enters_of Tryz.func68 (by kernel_rfl) rfl,fun n w' ha => ?_⟩
 exact (nw2_PT p kd n B1 B2 w'  ((ha B1 (.inl rfl)).trans k1) ((ha B2 (.inr rfl)).trans k2)).mono fun _ _ h => h.mono fun j h => h
theorem new_PT (p:Pl) (t kd:Int) (N:Nat) (w:World) (hp:p.ok) (hk:0 ≤ kd ∧ kd ≤ 2)  :
  Calls Tryz.prog 17 #[plV p,.int .i64 t,.int .i64 kd] w (RetP (PT kG (newT p t kd N)) noF w):=by
 have hok:St.ok ⟨0,1,kd⟩:=by unfold St.ok;simp only;omega
 go_enter Tryz.func17,Tryz.ntmps17
 go_wp2_with (go_at_call 62;refine Hid.out ?_)
 refine Lib.hid ?_
 have ⟨hE,hb0,hb1,hb2,hW⟩:=al3 w (.cells #[.int .i64 p.n,.int .i64 p.t,.int .i64 p.r,.int .i64 p.d,.int .i64 p.b,.int .i64 p.g] 23) (.cells #[.int .i64 kd] 3) (.cells #[.int .i64 0,.int .i64 0,.int .i64 0,.int .i64 0,.int .i64 0,.int .u64 0,.int .u64 0,.nilFunc,.pointer none] 46)
 generalize (((w.alloc (.cells #[.int .i64 p.n,.int .i64 p.t,.int .i64 p.r,.int .i64 p.d,.int .i64 p.b,.int .i64 p.g] 23)).alloc (.cells #[.int .i64 kd] 3)).alloc (.cells #[.int .i64 0,.int .i64 0,.int .i64 0,.int .i64 0,.int .i64 0,.int .u64 0,.int .u64 0,.nilFunc,.pointer none] 46)) = W at hE hb0 hb1 hb2 hW ⊢
 clear hW
 refine (live_any ⟨0,0,0⟩ kd W).mono ?_
 rintro e w1 ⟨rfl,hx⟩
 replace hE:=ext_trans hE hx
 replace hb0:=(hx.block _ (heap_lt hb0)).trans hb0
 replace hb1:=(hx.block _ (heap_lt hb1)).trans hb1
 replace hb2:=(hx.block _ (heap_lt hb2)).trans hb2
 clear hx
 replace hE:=Lib.hid hE
 replace hb0:=Lib.hid hb0
 replace hb1:=Lib.hid hb1
 replace hb2:=Lib.hid hb2
 go_wp2_with (go_at_call 63;refine Hid.out ?_)
 refine Lib.hid ?_
 replace hE:=hE.out
 replace hb0:=hb0.out
 replace hb1:=hb1.out
 replace hb2:=hb2.out
 refine (sformed_yes ⟨0,1,kd⟩ hok w1).mono ?_
 rintro e w2 ⟨rfl,hx⟩
 replace hE:=ext_trans hE hx
 replace hb0:=(hx.block _ (heap_lt hb0)).trans hb0
 replace hb1:=(hx.block _ (heap_lt hb1)).trans hb1
 replace hb2:=(hx.block _ (heap_lt hb2)).trans hb2
 clear hx
 have ⟨c0,c1,c2,c3,c4,c5,lt⟩:=PBox.plc hb0
 replace hE:=Lib.hid hE
 replace hb0:=Lib.hid hb0
 replace hb1:=Lib.hid hb1
 replace hb2:=Lib.hid hb2
 go_wp2_with (go_at_call 67;refine Hid.out ?_)
 refine Lib.hid ?_
 replace hE:=hE.out
 replace hb0:=hb0.out
 replace hb1:=hb1.out
 replace hb2:=hb2.out
 clear c0 c1 c2 c3 c4 c5 lt
 have hAT:=nw1_AT p N w.heap.size w2 hb0
 refine (twc_PT p t N (popT p N) _ _ _ w2 hAT hp (fun j h => by subst h;exact heap_lt hb0)).mono ?_
 rintro e w3 ⟨v1,F1,rfl,hx,hp1,hbn1,hsub⟩
 have hn1:¬ F1 (w.heap.size+1+1):=fun h => (hsub _ h).elim (fun h => by omega) fun h => by have:=heap_lt hb2;omega
 have hs1:∀ j,F1 j → (fun j => j = w.heap.size) j ∨ w.heap.size ≤ j:=fun j hj => (hsub j hj).elim .inl fun h => .inr (Nat.le_trans hE.size h)
 replace hE:=ext_trans hE hx
 replace hb0:=(hx.block _ (heap_lt hb0)).trans hb0
 replace hb1:=(hx.block _ (heap_lt hb1)).trans hb1
 replace hb2:=(hx.block _ (heap_lt hb2)).trans hb2
 clear hx hsub
 clear hAT
 replace hE:=Lib.hid hE
 replace hb0:=Lib.hid hb0
 replace hb1:=Lib.hid hb1
 replace hb2:=Lib.hid hb2
 replace hp1:=Lib.hid hp1
 replace hbn1:=Lib.hid hbn1
 replace hs1:=Lib.hid hs1
 replace hn1:=Lib.hid hn1
 go_wp2_with (go_at_call 66;refine Hid.out ?_)
 refine Lib.hid ?_
 replace hE:=hE.out
 replace hb0:=hb0.out
 replace hb1:=hb1.out
 replace hb2:=hb2.out
 replace hp1:=hp1.out
 replace hbn1:=hbn1.out
 replace hs1:=hs1.out
 replace hn1:=hn1.out
 have hCT:=nw2_CT p kd (w.heap.size+1) w.heap.size w3 hb1 hb0
 refine (then_IG _ _ F1 _ v1 _ w3 hp1 hCT hbn1 (fun j h => by rcases h with rfl | rfl;exact heap_lt hb1;exact heap_lt hb0)).mono ?_
 rintro e w' hR
 obtain ⟨v',F',rfl,hX,hp,hbn,hsub,hnF,hbq⟩:=hR.tail (G:=noF) (w.heap.size+1+1) hE (heap_lt hb2) (fun h => by rcases h with h | h | h;exact hn1 h;omega;omega) (fun j h => by rcases h with h | h | h;exact (hs1 j h).elim (fun h => .inr (by omega)) .inr;exact .inr (by omega);exact .inr (by omega))
 have hbx:=hbq.trans hb2
 clear hbq hR
 clear hE hb0 hb1 hb2 hp1 hbn1 hs1 hn1 hCT
 obtain ⟨y0,y1,y2,a2,fn2,rfl,HFN,HX⟩:=tlG hp hX hbx hbn hsub hnF (by omega)
 obtain ⟨c0,c1,c2,c3,c4,c5,c6,c7,c8,cz,ll⟩:=nin_of hbx
 clear hX hbx hp hbn hsub hnF
 rcases HFN.out with rfl | ⟨g',caps',rfl⟩
 all_goals
  go_wp2
  clear c0 c1 c2 c3 c4 c5 c6 c7 c8 cz ll
  obtain ⟨hX,hB,hP⟩:=HX.out
  clear HX
  generalize (World.setCell _ (⟨w.heap.size+1+1,8,none⟩ : Addr) _) = Z at hX hB hP ⊢
  obtain ⟨c0,c1,c2,c3,c4,c5,c6,c7,c8,cz,ll⟩:=nin_of hB
  exact bodyPost_ret (by simp only [results,Tryz.results17,go_sem];simp [go_sem,c0,c1,c2,c3,c4,c5,c6,c7,c8]) rfl ⟨_,F',rfl,hX,hP⟩
theorem cn1_PT (s:Se) (r:Gr) (B1:Nat) (w:World)  (k1:SBox B1 s w) :
  Calls Tryz.prog 113 #[grV r,.pointer (some ⟨B1,0,none⟩)] w (RetP (PT kR (cn1T s.tn r)) noF w):=by
 obtain ⟨n0,g0,e0⟩:=r
 show Calls Tryz.prog 113 #[.agg #[.int .i64 n0,.int .i64 g0,.int .i64 e0],.pointer (some ⟨B1,0,none⟩)] w _
 by_cases he:e0 = 0
 ·subst he
  have eT:cn1T s.tn ⟨n0,g0,0⟩ = .done ⟨0,Hn.word ⟨n0,g0,s.tn⟩⟩:=by unfold cn1T;rw [if_pos rfl]
  rw [eT]
  clear eT
  have HWD:∀ W,Calls Tryz.prog 115 #[.agg #[.int .i64 n0,.int .i64 g0,.int .i64 s.tn]] W (Ret (.int .u64 (U (Hn.word ⟨n0,g0,s.tn⟩))) W):=fun W => hword_any ⟨n0,g0,s.tn⟩ W
  obtain ⟨z,hz⟩ : ∃ z,Hn.word ⟨n0,g0,s.tn⟩ = z:=⟨_,rfl⟩
  rw [hz] at HWD ⊢
  clear hz
  have qk1:=heap_lt k1
  have ⟨z0,z1,z2,z3,z4,z5,z6,z7,zl⟩:=SBox.plc k1
  replace k1:=Lib.hid k1
  replace HWD:=Lib.hid HWD
  go_enter Tryz.func113,Tryz.ntmps113
  go_wp2_with (go_at_call 115;refine Hid.out ?_)
  refine Lib.hid ?_
  have ⟨hE,hb0,hb1,hW⟩:=al2 w (.cells #[.int .i64 n0,.int .i64 g0,.int .i64 0] 37) (.cells #[.int .i64 0,.int .u64 0,.int .i64 0,.int .i64 0,.int .u64 0,.int .u64 0,.nilFunc,.pointer none] 99)
  generalize ((w.alloc (.cells #[.int .i64 n0,.int .i64 g0,.int .i64 0] 37)).alloc (.cells #[.int .i64 0,.int .u64 0,.int .i64 0,.int .i64 0,.int .u64 0,.int .u64 0,.nilFunc,.pointer none] 99)) = W at hE hb0 hb1 hW ⊢
  replace k1:=(hE.block _ (heap_lt k1.out)).trans k1.out
  clear hW
  clear z0 z1 z2 z3 z4 z5 z6 z7 zl
  refine (HWD.out W).mono ?_
  rintro e w1 ⟨rfl,hx⟩
  replace hE:=ext_trans hE hx
  replace hb0:=(hx.block _ (heap_lt hb0)).trans hb0
  replace hb1:=(hx.block _ (heap_lt hb1)).trans hb1
  replace k1:=(hx.block _ (heap_lt k1)).trans k1
  clear hx
  replace hE:=Lib.hid hE
  replace hb0:=Lib.hid hb0
  replace hb1:=Lib.hid hb1
  replace k1:=Lib.hid k1
  go_wp2_with (go_at_call 114;refine Hid.out ?_)
  refine Lib.hid ?_
  replace hE:=hE.out
  replace hb0:=hb0.out
  replace hb1:=hb1.out
  replace k1:=k1.out
  refine (tells_PT z w1).mono ?_
  rintro e w' hR
  obtain ⟨v',F',rfl,hX,hp,hbn,hsub,hnF,hbq⟩:=hR.tail (G:=noF) (w.heap.size+1) hE (heap_lt hb1) (fun h => h) (fun _ h => h.elim)
  have hbx:=hbq.trans hb1
  clear hbq hR
  clear hE hb0 hb1 k1 HWD
  obtain ⟨y0,y1,a2,fn2,rfl,HFN,HX⟩:=tlR hp hX hbx hbn hsub hnF (by omega)
  obtain ⟨c0,c1,c2,c3,c4,c5,c6,c7,cz,ll⟩:=eit_of hbx
  clear hX hbx hp hbn hsub hnF
  rcases HFN.out with rfl | ⟨g',caps',rfl⟩
  all_goals
   go_wp2
   clear c0 c1 c2 c3 c4 c5 c6 c7 cz ll
   obtain ⟨hX,hB,hP⟩:=HX.out
   clear HX
   generalize (World.setCell _ (⟨w.heap.size+1,7,none⟩ : Addr) _) = Z at hX hB hP ⊢
   obtain ⟨c0,c1,c2,c3,c4,c5,c6,c7,cz,ll⟩:=eit_of hB
   exact bodyPost_ret (by simp only [results,Tryz.results113,go_sem];simp [go_sem,c0,c1,c2,c3,c4,c5,c6,c7]) rfl ⟨_,F',rfl,hX,hP⟩
 ·have eT:cn1T s.tn ⟨n0,g0,e0⟩ = .done ⟨e0,0#64⟩:=by unfold cn1T;rw [if_neg he]
  rw [eT]
  have hb:(e0 != 0) = true:=bne_iff_ne.2 he
  clear eT he
  have qk1:=heap_lt k1
  have ⟨z0,z1,z2,z3,z4,z5,z6,z7,zl⟩:=SBox.plc k1
  replace k1:=Lib.hid k1
  go_enter Tryz.func113,Tryz.ntmps113
  go_wp2_with (go_at_call 111;refine Hid.out ?_)
  refine Lib.hid ?_
  have ⟨hE,hb0,hb1,hW⟩:=al2 w (.cells #[.int .i64 n0,.int .i64 g0,.int .i64 e0] 37) (.cells #[.int .i64 0,.int .u64 0,.int .i64 0,.int .i64 0,.int .u64 0,.int .u64 0,.nilFunc,.pointer none] 99)
  generalize ((w.alloc (.cells #[.int .i64 n0,.int .i64 g0,.int .i64 e0] 37)).alloc (.cells #[.int .i64 0,.int .u64 0,.int .i64 0,.int .i64 0,.int .u64 0,.int .u64 0,.nilFunc,.pointer none] 99)) = W at hE hb0 hb1 hW ⊢
  replace k1:=(hE.block _ (heap_lt k1.out)).trans k1.out
  clear hW
  clear z0 z1 z2 z3 z4 z5 z6 z7 zl
  refine (fails_PT e0 W).mono ?_
  rintro e w' hR
  obtain ⟨v',F',rfl,hX,hp,hbn,hsub,hnF,hbq⟩:=hR.tail (G:=noF) (w.heap.size+1) hE (heap_lt hb1) (fun h => h) (fun _ h => h.elim)
  have hbx:=hbq.trans hb1
  clear hbq hR
  clear hE hb0 hb1 k1
  obtain ⟨y0,y1,a2,fn2,rfl,HFN,HX⟩:=tlR hp hX hbx hbn hsub hnF (by omega)
  obtain ⟨c0,c1,c2,c3,c4,c5,c6,c7,cz,ll⟩:=eit_of hbx
  clear hX hbx hp hbn hsub hnF
  rcases HFN.out with rfl | ⟨g',caps',rfl⟩
  all_goals
   go_wp2
   clear c0 c1 c2 c3 c4 c5 c6 c7 cz ll
   obtain ⟨hX,hB,hP⟩:=HX.out
   clear HX
   generalize (World.setCell _ (⟨w.heap.size+1,7,none⟩ : Addr) _) = Z at hX hB hP ⊢
   obtain ⟨c0,c1,c2,c3,c4,c5,c6,c7,cz,ll⟩:=eit_of hB
   exact bodyPost_ret (by simp only [results,Tryz.results113,go_sem];simp [go_sem,c0,c1,c2,c3,c4,c5,c6,c7]) rfl ⟨_,F',rfl,hX,hP⟩
theorem cn1_CT (s:Se) (B1:Nat) (w:World)  (k1:SBox B1 s w)  :
  CT kG kR (fun r => cn1T s.tn r) (fun j => j = B1) (.func (.func 113) #[] #[.pointer (some ⟨B1,0,none⟩)]) w:=by
 refine ⟨_,_,rfl,enters_of Tryz.func113 (by kernel_rfl) rfl,fun x9 w' ha => ?_⟩
 exact (cn1_PT s x9 B1 w' ((ha B1 (rfl)).trans k1)).mono fun _ _ h => h.mono fun j h => h.elim
def cnewT (s:Se) (N:Nat):Tr Rz:=if s.ok then cnwT s.p s.th s.tn N else .done ⟨1,0#64⟩
theorem cnew_arg (s:Se) (w:World) (hr:∀ W,Calls Tryz.prog 43 #[seV s] W (Ret (.bool false) W)):Calls Tryz.prog 48 #[seV s] w (RetP (PT kR (.done ⟨1,0#64⟩)) noF w):=by
 replace hr:=Lib.hid hr
 go_enter Tryz.func48,Tryz.ntmps48
 go_wp2_with (go_at_call 43;refine Hid.out ?_)
 refine Lib.hid ?_
 have ⟨hE,hb0,hb1,hW⟩:=al2 w (.cells #[.int .i64 s.p.n,.int .i64 s.p.t,.int .i64 s.p.r,.int .i64 s.p.d,.int .i64 s.p.b,.int .i64 s.p.g,.int .i64 s.tn,.int .i64 s.th] 82) (.cells #[.int .i64 0,.int .u64 0,.int .i64 0,.int .i64 0,.int .u64 0,.int .u64 0,.nilFunc,.pointer none] 99)
 generalize ((w.alloc (.cells #[.int .i64 s.p.n,.int .i64 s.p.t,.int .i64 s.p.r,.int .i64 s.p.d,.int .i64 s.p.b,.int .i64 s.p.g,.int .i64 s.tn,.int .i64 s.th] 82)).alloc (.cells #[.int .i64 0,.int .u64 0,.int .i64 0,.int .i64 0,.int .u64 0,.int .u64 0,.nilFunc,.pointer none] 99)) = W at hE hb0 hb1 hW ⊢
 clear hW
 refine (hr.out W).mono ?_
 rintro e w1 ⟨rfl,hx⟩
 replace hE:=ext_trans hE hx
 replace hb0:=(hx.block _ (heap_lt hb0)).trans hb0
 replace hb1:=(hx.block _ (heap_lt hb1)).trans hb1
 clear hx
 replace hE:=Lib.hid hE
 replace hb0:=Lib.hid hb0
 replace hb1:=Lib.hid hb1
 go_wp2_with (go_at_call 111;refine Hid.out ?_)
 refine Lib.hid ?_
 replace hE:=hE.out
 replace hb0:=hb0.out
 replace hb1:=hb1.out
 refine (fails_PT 1 w1).mono ?_
 rintro e w' hR
 obtain ⟨v',F',rfl,hX,hp,hbn,hsub,hnF,hbq⟩:=hR.tail (G:=noF) (w.heap.size+1) hE (heap_lt hb1) (fun h => h) (fun _ h => h.elim)
 have hbx:=hbq.trans hb1
 clear hbq hR
 clear hE hb0 hb1 hr
 obtain ⟨y0,y1,a2,fn2,rfl,HFN,HX⟩:=tlR hp hX hbx hbn hsub hnF (by omega)
 obtain ⟨c0,c1,c2,c3,c4,c5,c6,c7,cz,ll⟩:=eit_of hbx
 clear hX hbx hp hbn hsub hnF
 rcases HFN.out with rfl | ⟨g',caps',rfl⟩
 all_goals
  go_wp2
  clear c0 c1 c2 c3 c4 c5 c6 c7 cz ll
  obtain ⟨hX,hB,hP⟩:=HX.out
  clear HX
  generalize (World.setCell _ (⟨w.heap.size+1,7,none⟩ : Addr) _) = Z at hX hB hP ⊢
  obtain ⟨c0,c1,c2,c3,c4,c5,c6,c7,cz,ll⟩:=eit_of hB
  exact bodyPost_ret (by simp only [results,Tryz.results48,go_sem];simp [go_sem,c0,c1,c2,c3,c4,c5,c6,c7]) rfl ⟨_,F',rfl,hX,hP⟩
theorem cnew_yes (s:Se) (N:Nat) (w:World) (hr:∀ W,Calls Tryz.prog 43 #[seV s] W (Ret (.bool true) W)) (hpk:s.p.ok):Calls Tryz.prog 48 #[seV s] w (RetP (PT kR (cnwT s.p s.th s.tn N)) noF w):=by
 replace hr:=Lib.hid hr
 replace hpk:=Lib.hid hpk
 go_enter Tryz.func48,Tryz.ntmps48
 go_wp2_with (go_at_call 43;refine Hid.out ?_)
 refine Lib.hid ?_
 have ⟨hE,hb0,hb1,hW⟩:=al2 w (.cells #[.int .i64 s.p.n,.int .i64 s.p.t,.int .i64 s.p.r,.int .i64 s.p.d,.int .i64 s.p.b,.int .i64 s.p.g,.int .i64 s.tn,.int .i64 s.th] 82) (.cells #[.int .i64 0,.int .u64 0,.int .i64 0,.int .i64 0,.int .u64 0,.int .u64 0,.nilFunc,.pointer none] 99)
 generalize ((w.alloc (.cells #[.int .i64 s.p.n,.int .i64 s.p.t,.int .i64 s.p.r,.int .i64 s.p.d,.int .i64 s.p.b,.int .i64 s.p.g,.int .i64 s.tn,.int .i64 s.th] 82)).alloc (.cells #[.int .i64 0,.int .u64 0,.int .i64 0,.int .i64 0,.int .u64 0,.int .u64 0,.nilFunc,.pointer none] 99)) = W at hE hb0 hb1 hW ⊢
 clear hW
 refine (hr.out W).mono ?_
 rintro e w1 ⟨rfl,hx⟩
 replace hE:=ext_trans hE hx
 replace hb0:=(hx.block _ (heap_lt hb0)).trans hb0
 replace hb1:=(hx.block _ (heap_lt hb1)).trans hb1
 clear hx
 have ⟨z0,z1,z2,z3,z4,z5,z6,z7,zl⟩:=SBox.plc hb0
 replace hE:=Lib.hid hE
 replace hb0:=Lib.hid hb0
 replace hb1:=Lib.hid hb1
 go_wp2_with (go_at_call 17;refine Hid.out ?_)
 refine Lib.hid ?_
 replace hE:=hE.out
 replace hb0:=hb0.out
 replace hb1:=hb1.out
 clear z0 z1 z2 z3 z4 z5 z6 z7 zl
 refine (new_PT s.p s.th 0 N w1 hpk.out ⟨by omega,by omega⟩).mono ?_
 rintro e w2 ⟨v1,F1,rfl,hx,hp1,hbn1,hsub⟩
 have hn1:¬ F1 (w.heap.size+1):=fun h => (hsub _ h).elim (fun h => h) fun h => by have:=heap_lt hb1;omega
 have hs1:∀ j,F1 j → noF j ∨ w.heap.size ≤ j:=fun j hj => (hsub j hj).imp_right fun h => Nat.le_trans hE.size h
 replace hE:=ext_trans hE hx
 replace hb0:=(hx.block _ (heap_lt hb0)).trans hb0
 replace hb1:=(hx.block _ (heap_lt hb1)).trans hb1
 clear hx hsub
 replace hE:=Lib.hid hE
 replace hb0:=Lib.hid hb0
 replace hb1:=Lib.hid hb1
 replace hp1:=Lib.hid hp1
 replace hbn1:=Lib.hid hbn1
 replace hs1:=Lib.hid hs1
 replace hn1:=Lib.hid hn1
 go_wp2_with (go_at_call 112;refine Hid.out ?_)
 refine Lib.hid ?_
 replace hE:=hE.out
 replace hb0:=hb0.out
 replace hb1:=hb1.out
 replace hp1:=hp1.out
 replace hbn1:=hbn1.out
 replace hs1:=hs1.out
 replace hn1:=hn1.out
 refine (then_GR _ _ F1 _ v1 _ w2 hp1 (cn1_CT s w.heap.size _ hb0) hbn1 (fun j h => by subst h;exact heap_lt hb0)).mono ?_
 rintro e w' hR
 obtain ⟨v',F',rfl,hX,hp,hbn,hsub,hnF,hbq⟩:=hR.tail (G:=noF) (w.heap.size+1) hE (heap_lt hb1) (fun h => by rcases h with h | h;exact hn1 h;omega) (fun j h => by rcases h with h | h;exact (hs1 j h).imp_left False.elim;exact .inr (by omega))
 have hbx:=hbq.trans hb1
 clear hbq hR
 clear hE hb0 hb1 hp1 hbn1 hs1 hn1 hr hpk
 obtain ⟨y0,y1,a2,fn2,rfl,HFN,HX⟩:=tlR hp hX hbx hbn hsub hnF (by omega)
 obtain ⟨c0,c1,c2,c3,c4,c5,c6,c7,cz,ll⟩:=eit_of hbx
 clear hX hbx hp hbn hsub hnF
 rcases HFN.out with rfl | ⟨g',caps',rfl⟩
 all_goals
  go_wp2
  clear c0 c1 c2 c3 c4 c5 c6 c7 cz ll
  obtain ⟨hX,hB,hP⟩:=HX.out
  clear HX
  generalize (World.setCell _ (⟨w.heap.size+1,7,none⟩ : Addr) _) = Z at hX hB hP ⊢
  obtain ⟨c0,c1,c2,c3,c4,c5,c6,c7,cz,ll⟩:=eit_of hB
  exact bodyPost_ret (by simp only [results,Tryz.results48,go_sem];simp [go_sem,c0,c1,c2,c3,c4,c5,c6,c7]) rfl ⟨_,F',rfl,hX,hP⟩
theorem cnew_PT (s:Se) (N:Nat) (w:World):Calls Tryz.prog 48 #[seV s] w (RetP (PT kR (cnewT s N)) noF w):=by
 unfold cnewT
 by_cases h1:s.ok
 ·rw [if_pos h1]
  exact cnew_yes s N w (fun W => seat_yes s h1 W) h1.1
 ·rw [if_neg h1]
  exact cnew_arg s w (fun W => seat_no s h1 W)
end Go.Proofs.YthjklbonebnekaaGreat

