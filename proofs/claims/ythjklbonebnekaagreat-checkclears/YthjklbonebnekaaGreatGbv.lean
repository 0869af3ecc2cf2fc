/-
  What the call of Drop comes to. Conditions: those of each theorem.
-/
import Derived.Test.YthjklbonebnekaaGreatGar
import Derived.Test.YthjklbonebnekaaGreatGbo
import Derived.Test.YthjklbonebnekaaGreatGbq
import Derived.Test.YthjklbonebnekaaGreatGbu
set_option maxRecDepth 8000
set_option maxHeartbeats 4000000
namespace Go.Proofs.YthjklbonebnekaaGreat
open Go Go.RowKit
theorem gb2_PT (x:Int) (w:World):Calls Tryz.prog 202 #[.int .i64 x] w (RetP (PT kR (.done ⟨0,0#64⟩)) noF w):=by
 go_enter Tryz.func202,Tryz.ntmps202
 go_wp2_with (go_at_call 114;refine Hid.out ?_)
 refine Lib.hid ?_
 have ⟨hE,hb0,hW⟩:=al1 w (.cells #[.int .i64 0,.int .u64 0,.int .i64 0,.int .i64 0,.int .u64 0,.int .u64 0,.nilFunc,.pointer none] 99)
 generalize (w.alloc (.cells #[.int .i64 0,.int .u64 0,.int .i64 0,.int .i64 0,.int .u64 0,.int .u64 0,.nilFunc,.pointer none] 99)) = W at hE hb0 hW ⊢
 clear hW
 refine (tells0_PT W).mono ?_
 rintro e w' hR
 obtain ⟨v',F',rfl,hX,hp,hbn,hsub,hnF,hbq⟩:=hR.tail (G:=noF) (w.heap.size) hE (heap_lt hb0) (fun h => h) (fun _ h => h.elim)
 have hbx:=hbq.trans hb0
 clear hbq hR
 clear hE hb0
 obtain ⟨y0,y1,a2,fn2,rfl,HFN,HX⟩:=tlR hp hX hbx hbn hsub hnF (by omega)
 obtain ⟨c0,c1,c2,c3,c4,c5,c6,c7,cz,ll⟩:=eit_of hbx
 clear hX hbx hp hbn hsub hnF
 rcases HFN.out with rfl | ⟨g',caps',rfl⟩
 all_goals
  go_wp2
  clear c0 c1 c2 c3 c4 c5 c6 c7 cz ll
  obtain ⟨hX,hB,hP⟩:=HX.out
  clear HX
  generalize (World.setCell _ (⟨w.heap.size,7,none⟩ : Addr) _) = Z at hX hB hP ⊢
  obtain ⟨c0,c1,c2,c3,c4,c5,c6,c7,cz,ll⟩:=eit_of hB
  exact bodyPost_ret (by simp only [results,Tryz.results202,go_sem];simp [go_sem,c0,c1,c2,c3,c4,c5,c6,c7]) rfl ⟨_,F',rfl,hX,hP⟩
theorem gb2_CT (w:World):CT kI kR (fun _ => .done ⟨0,0#64⟩) noF (.func (.func 202) #[] #[]) w:=
 ⟨_,_,rfl,enters_of Tryz.func202 (by kernel_rfl) rfl,fun x w' _ => gb2_PT x w'⟩
theorem gb1_PT (s:Se) (h:Hn) (N:Nat) (b:Bool) (B1 B2:Nat) (w:World) (hpk:s.p.ok) (hq0:0 ≤ h.i) (hq1:h.i < 4611686018427387904) (k1:SBox B1 s w) (k2:w.heap[B2]? = some (.cells #[.int .i64 h.i,.int .i64 h.g,.int .i64 h.t] 107 (0,0))) :
  Calls Tryz.prog 200 #[.bool b,.pointer (some ⟨B1,0,none⟩),.pointer (some ⟨B2,0,none⟩)] w (RetP (PT kR (gb1T s.p s.th h.i N b)) noF w):=by
 cases b with
 | true =>
  show Calls Tryz.prog 200 #[.bool true,.pointer (some ⟨B1,0,none⟩),.pointer (some ⟨B2,0,none⟩)] w (RetP (PT kR ((stashT s.p s.th h.i N).bind fun _ => .done ⟨0,0#64⟩)) noF w)
  have qk1:=heap_lt k1
  have ⟨z0,z1,z2,z3,z4,z5,z6,z7,zl⟩:=SBox.plc k1
  have qk2:=heap_lt k2
  have d2_0:=cell_at (o:=0) k2 rfl
  have d2_1:=cell_at (o:=1) k2 rfl
  have d2_2:=cell_at (o:=2) k2 rfl
  have e2:=cell_lt d2_0
  replace k1:=Lib.hid k1
  replace k2:=Lib.hid k2
  replace hpk:=Lib.hid hpk
  replace hq0:=Lib.hid hq0
  replace hq1:=Lib.hid hq1
  go_enter Tryz.func200,Tryz.ntmps200
  go_wp2_with (go_at_call 88;refine Hid.out ?_)
  refine Lib.hid ?_
  have ⟨hE,hb0,hW⟩:=al1 w (.cells #[.int .i64 0,.int .u64 0,.int .i64 0,.int .i64 0,.int .u64 0,.int .u64 0,.nilFunc,.pointer none] 99)
  generalize (w.alloc (.cells #[.int .i64 0,.int .u64 0,.int .i64 0,.int .i64 0,.int .u64 0,.int .u64 0,.nilFunc,.pointer none] 99)) = W at hE hb0 hW ⊢
  replace k1:=(hE.block _ (heap_lt k1.out)).trans k1.out
  replace k2:=(hE.block _ (heap_lt k2.out)).trans k2.out
  clear hW
  clear z0 z1 z2 z3 z4 z5 z6 z7 zl d2_0 d2_1 d2_2 e2
  refine (stash_PT s.p s.th h.i N W hpk.out hq0.out hq1.out).mono ?_
  rintro e w1 ⟨v1,F1,rfl,hx,hp1,hbn1,hsub⟩
  have hn1:¬ F1 (w.heap.size):=fun h => (hsub _ h).elim (fun h => h) fun h => by have:=heap_lt hb0;omega
  have hs1:∀ j,F1 j → noF j ∨ w.heap.size ≤ j:=fun j hj => (hsub j hj).imp_right fun h => Nat.le_trans hE.size h
  replace hE:=ext_trans hE hx
  replace hb0:=(hx.block _ (heap_lt hb0)).trans hb0
  replace k1:=(hx.block _ (heap_lt k1)).trans k1
  replace k2:=(hx.block _ (heap_lt k2)).trans k2
  clear hx hsub
  replace hE:=Lib.hid hE
  replace hb0:=Lib.hid hb0
  replace k1:=Lib.hid k1
  replace k2:=Lib.hid k2
  replace hp1:=Lib.hid hp1
  replace hbn1:=Lib.hid hbn1
  replace hs1:=Lib.hid hs1
  replace hn1:=Lib.hid hn1
  go_wp2_with (go_at_call 201;refine Hid.out ?_)
  refine Lib.hid ?_
  replace hE:=hE.out
  replace hb0:=hb0.out
  replace k1:=k1.out
  replace k2:=k2.out
  replace hp1:=hp1.out
  replace hbn1:=hbn1.out
  replace hs1:=hs1.out
  replace hn1:=hn1.out
  refine (then_IR _ _ F1 noF v1 _ w1 hp1 (gb2_CT _) hbn1 (bnd_no _)).mono ?_
  rintro e w' hR
  obtain ⟨v',F',rfl,hX,hp,hbn,hsub,hnF,hbq⟩:=hR.tail (G:=noF) (w.heap.size) hE (heap_lt hb0) (fun h => by rcases h with h | h;exact hn1 h;exact h) (fun j h => by rcases h with h | h;exact (hs1 j h).imp_left False.elim;exact h.elim)
  have hbx:=hbq.trans hb0
  clear hbq hR
  clear hE hb0 k1 k2 hp1 hbn1 hs1 hn1 hpk hq0 hq1
  obtain ⟨y0,y1,a2,fn2,rfl,HFN,HX⟩:=tlR hp hX hbx hbn hsub hnF (by omega)
  obtain ⟨c0,c1,c2,c3,c4,c5,c6,c7,cz,ll⟩:=eit_of hbx
  clear hX hbx hp hbn hsub hnF
  rcases HFN.out with rfl | ⟨g',caps',rfl⟩
  all_goals
   go_wp2
   clear c0 c1 c2 c3 c4 c5 c6 c7 cz ll
   obtain ⟨hX,hB,hP⟩:=HX.out
   clear HX
   generalize (World.setCell _ (⟨w.heap.size,7,none⟩ : Addr) _) = Z at hX hB hP ⊢
   obtain ⟨c0,c1,c2,c3,c4,c5,c6,c7,cz,ll⟩:=eit_of hB
   exact bodyPost_ret (by simp only [results,Tryz.results200,go_sem];simp [go_sem,c0,c1,c2,c3,c4,c5,c6,c7]) rfl ⟨_,F',rfl,hX,hP⟩
 | false =>
  show Calls Tryz.prog 200 #[.bool false,.pointer (some ⟨B1,0,none⟩),.pointer (some ⟨B2,0,none⟩)] w (RetP (PT kR badT) noF w)
  have qk1:=heap_lt k1
  have ⟨z0,z1,z2,z3,z4,z5,z6,z7,zl⟩:=SBox.plc k1
  have qk2:=heap_lt k2
  have d2_0:=cell_at (o:=0) k2 rfl
  have d2_1:=cell_at (o:=1) k2 rfl
  have d2_2:=cell_at (o:=2) k2 rfl
  have e2:=cell_lt d2_0
  replace k1:=Lib.hid k1
  replace k2:=Lib.hid k2
  go_enter Tryz.func200,Tryz.ntmps200
  go_wp2_with (go_at_call 124;refine Hid.out ?_)
  refine Lib.hid ?_
  have ⟨hE,hb0,hW⟩:=al1 w (.cells #[.int .i64 0,.int .u64 0,.int .i64 0,.int .i64 0,.int .u64 0,.int .u64 0,.nilFunc,.pointer none] 99)
  generalize (w.alloc (.cells #[.int .i64 0,.int .u64 0,.int .i64 0,.int .i64 0,.int .u64 0,.int .u64 0,.nilFunc,.pointer none] 99)) = W at hE hb0 hW ⊢
  replace k1:=(hE.block _ (heap_lt k1.out)).trans k1.out
  replace k2:=(hE.block _ (heap_lt k2.out)).trans k2.out
  clear hW
  clear z0 z1 z2 z3 z4 z5 z6 z7 zl d2_0 d2_1 d2_2 e2
  refine (bad_PT W).mono ?_
  rintro e w' hR
  obtain ⟨v',F',rfl,hX,hp,hbn,hsub,hnF,hbq⟩:=hR.tail (G:=noF) (w.heap.size) hE (heap_lt hb0) (fun h => h) (fun _ h => h.elim)
  have hbx:=hbq.trans hb0
  clear hbq hR
  clear hE hb0 k1 k2
  obtain ⟨y0,y1,a2,fn2,rfl,HFN,HX⟩:=tlR hp hX hbx hbn hsub hnF (by omega)
  obtain ⟨c0,c1,c2,c3,c4,c5,c6,c7,cz,ll⟩:=eit_of hbx
  clear hX hbx hp hbn hsub hnF
  rcases HFN.out with rfl | ⟨g',caps',rfl⟩
  all_goals
   go_wp2
   clear c0 c1 c2 c3 c4 c5 c6 c7 cz ll
   obtain ⟨hX,hB,hP⟩:=HX.out
   clear HX
   generalize (World.setCell _ (⟨w.heap.size,7,none⟩ : Addr) _) = Z at hX hB hP ⊢
   obtain ⟨c0,c1,c2,c3,c4,c5,c6,c7,cz,ll⟩:=eit_of hB
   exact bodyPost_ret (by simp only [results,Tryz.results200,go_sem];simp [go_sem,c0,c1,c2,c3,c4,c5,c6,c7]) rfl ⟨_,F',rfl,hX,hP⟩
theorem gb1_CT (s:Se) (h:Hn) (N:Nat) (B1 B2:Nat) (w:World) (hpk:s.p.ok) (hq0:0 ≤ h.i) (hq1:h.i < 4611686018427387904) (k1:SBox B1 s w) (k2:w.heap[B2]? = some (.cells #[.int .i64 h.i,.int .i64 h.g,.int .i64 h.t] 107 (0,0)))  :
  CT kB kR (fun b => gb1T s.p s.th h.i N b) (fun j => j = B1 ∨ j = B2) (.func (.func 200) #[] #[.pointer (some ⟨B1,0,none⟩),.pointer (some ⟨B2,0,none⟩)]) w:=by
 refine ⟨_,_,rfl,enters_of Tryz.func200 (by kernel_rfl) rfl,fun x9 w' ha => ?_⟩
 exact (gb1_PT s h N x9 B1 B2 w' hpk hq0 hq1 ((ha B1 (.inl rfl)).trans k1) ((ha B2 (.inr rfl)).trans k2)).mono fun _ _ h => h.mono fun j h => h.elim
set_option maxRecDepth 16000 in
set_option maxHeartbeats 20000000 in
theorem gb_PT (s:Se) (h:Hn) (N:Nat) (w:World) (hpk:s.p.ok) (hq0:0 ≤ h.i) (hq1:h.i < 4611686018427387904)  :
  Calls Tryz.prog 127 #[seV s,hnV h] w (RetP (PT kR (gbT s.p s.th h N)) noF w):=by
 obtain ⟨zg,hzg⟩ : ∃ z,gW h.g = z:=⟨_,rfl⟩
 obtain ⟨zr,hzr⟩ : ∃ z,rW h.g = z:=⟨_,rfl⟩
 have HD1:Hid (∀ W,Calls Tryz.prog 22 #[.agg #[.int .i64 h.g,.int .i64 1,.int .i64 0]] W (Ret (.int .u64 (U (gW h.g))) W)):=Lib.hid (fun W => word_any ⟨h.g,1,0⟩ W)
 have HD2:Hid (∀ W,Calls Tryz.prog 22 #[.agg #[.int .i64 h.g,.int .i64 2,.int .i64 0]] W (Ret (.int .u64 (U (rW h.g))) W)):=Lib.hid (fun W => word_any ⟨h.g,2,0⟩ W)
 have HR0:Hid (∀ W,Calls Tryz.prog 86 #[.agg #[.int .i64 h.g,.int .i64 1,.int .i64 0]] W (Ret (.agg #[.int .i64 h.g,.int .i64 2,.int .i64 0]) W)):=Lib.hid (fun W => retire_any ⟨h.g,1,0⟩ W)
 have HS0:=Lib.hid (fun W:World => state_any s.p h.i W)
 unfold gbT
 rw [hzg] at HD1 ⊢
 rw [hzr] at HD2 ⊢
 clear hzg hzr
 replace hpk:=Lib.hid hpk
 replace hq0:=Lib.hid hq0
 replace hq1:=Lib.hid hq1
 go_enter Tryz.func127,Tryz.ntmps127
 go_wp2_with (go_at_call 198;refine Hid.out ?_)
 refine Lib.hid ?_
 have ⟨hE,hb0,hb1,hb2,hW⟩:=al3 w (.cells #[.int .i64 s.p.n,.int .i64 s.p.t,.int .i64 s.p.r,.int .i64 s.p.d,.int .i64 s.p.b,.int .i64 s.p.g,.int .i64 s.tn,.int .i64 s.th] 82) (.cells #[.int .i64 h.i,.int .i64 h.g,.int .i64 h.t] 107) (.cells #[.int .i64 0,.int .u64 0,.int .i64 0,.int .i64 0,.int .u64 0,.int .u64 0,.nilFunc,.pointer none] 99)
 generalize (((w.alloc (.cells #[.int .i64 s.p.n,.int .i64 s.p.t,.int .i64 s.p.r,.int .i64 s.p.d,.int .i64 s.p.b,.int .i64 s.p.g,.int .i64 s.tn,.int .i64 s.th] 82)).alloc (.cells #[.int .i64 h.i,.int .i64 h.g,.int .i64 h.t] 107)).alloc (.cells #[.int .i64 0,.int .u64 0,.int .i64 0,.int .i64 0,.int .u64 0,.int .u64 0,.nilFunc,.pointer none] 99)) = W at hE hb0 hb1 hb2 hW ⊢
 clear hW
 refine (cgr_any h.i h.g h.t W).mono ?_
 rintro e w1 ⟨rfl,hx⟩
 replace hE:=ext_trans hE hx
 replace hb0:=(hx.block _ (heap_lt hb0)).trans hb0
 replace hb1:=(hx.block _ (heap_lt hb1)).trans hb1
 replace hb2:=(hx.block _ (heap_lt hb2)).trans hb2
 clear hx
 replace hE:=Lib.hid hE
 replace hb0:=Lib.hid hb0
 replace hb1:=Lib.hid hb1
 replace hb2:=Lib.hid hb2
 go_upto_region 2 with (fail)
 replace hE:=hE.out
 replace hb0:=hb0.out
 replace hb1:=hb1.out
 replace hb2:=hb2.out
 have hx:Ext w1 (w1.alloc (.cells #[.int .i64 h.g,.int .i64 1,.int .i64 0] 56)):=ext_alloc _ (ext_refl w1)
 have hb3:(w1.alloc (.cells #[.int .i64 h.g,.int .i64 1,.int .i64 0] 56)).heap[w1.heap.size]? = some (.cells #[.int .i64 h.g,.int .i64 1,.int .i64 0] 56):=heap_at _ _ _ rfl
 generalize w1.alloc (.cells #[.int .i64 h.g,.int .i64 1,.int .i64 0] 56) = X at hx hb3 ⊢
 replace hE:=ext_trans hE hx
 replace hb0:=(hx.block _ (heap_lt hb0)).trans hb0
 replace hb1:=(hx.block _ (heap_lt hb1)).trans hb1
 replace hb2:=(hx.block _ (heap_lt hb2)).trans hb2
 clear hx
 have hszX:=hE.size
 have hrbX:=heap_lt hb2
 rename_i K hK
 have HREST:∀ (bx:Nat) (Y:World) (y:Bool) (a2:Acc) (fn2:Value) (F1:Nat → Prop),Ext X Y → Y.heap[bx]? = some (.cells #[.bool y,.int .i64 a2.op,.int .i64 a2.at_,.int .u64 (U a2.a),.int .u64 (U a2.b),fn2,.pointer none] 218 (0,0)) → PT kB (tryT (s.p.stF h.i) zg zr) F1 (.agg #[.bool y,.int .i64 a2.op,.int .i64 a2.at_,.int .u64 (U a2.a),.int .u64 (U a2.b),fn2,.pointer none]) Y → Bnd F1 Y → (∀ j,F1 j → X.heap.size ≤ j) → ¬ F1 bx → (fn2 = .nilFunc ∨ ∃ g caps,fn2 = .func (.func g) #[] caps) → K { tmps:=#[seV s,hnV h,.pointer (some ⟨w.heap.size,0,none⟩),.pointer (some ⟨w.heap.size+1,0,none⟩),.pointer (some ⟨w.heap.size+1+1,0,none⟩),.pointer (some ⟨w1.heap.size,0,none⟩),.pointer (some ⟨bx,0,none⟩),hnV h,.agg #[.int .i64 h.g,.int .i64 1,.int .i64 0],.pointer (some ⟨w.heap.size,0,none⟩),plV s.p,.pointer (some ⟨w.heap.size+1,0,none⟩),.int .i64 h.i,.int .i64 (s.p.stF h.i),.agg #[.int .i64 h.g,.int .i64 1,.int .i64 0],.int .u64 (U zg),.agg #[.int .i64 h.g,.int .i64 1,.int .i64 0],.agg #[.int .i64 h.g,.int .i64 2,.int .i64 0],.int .u64 (U zr),.agg #[.bool y,.int .i64 a2.op,.int .i64 a2.at_,.int .u64 (U a2.a),.int .u64 (U a2.b),fn2,.pointer none],undef,undef,undef],defers:=[] } Y:=by
  intro bx Y y a2 fn2 F1 hx hbx hp1 hbn1 hsub1 hnb hfn2
  obtain ⟨c0,c1,c2,c3,c4,c5,c6,cz,ll⟩:=sev_of hbx
  have hn1:¬ F1 (w.heap.size+1+1):=fun h => by have:=hsub1 _ h;omega
  have hs1:∀ j,F1 j → noF j ∨ w.heap.size ≤ j:=fun j hj => .inr (by have:=hsub1 _ hj;omega)
  replace hE:=ext_trans hE hx
  replace hb0:=(hx.block _ (heap_lt hb0)).trans hb0
  replace hb1:=(hx.block _ (heap_lt hb1)).trans hb1
  replace hb2:=(hx.block _ (heap_lt hb2)).trans hb2
  clear hx hbx hb3 hsub1 hnb HD1 HD2 HR0 HS0
  replace hE:=Lib.hid hE
  replace hb0:=Lib.hid hb0
  replace hb1:=Lib.hid hb1
  replace hb2:=Lib.hid hb2
  replace hp1:=Lib.hid hp1
  replace hbn1:=Lib.hid hbn1
  replace hs1:=Lib.hid hs1
  replace hn1:=Lib.hid hn1
  apply hK
  clear hK
  rcases hfn2 with rfl | ⟨g0,caps0,rfl⟩
  all_goals
   go_wp2_with (go_at_call 199;refine Hid.out ?_)
   refine Lib.hid ?_
   replace hE:=hE.out
   replace hb0:=hb0.out
   replace hb1:=hb1.out
   replace hb2:=hb2.out
   replace hp1:=hp1.out
   replace hbn1:=hbn1.out
   replace hs1:=hs1.out
   replace hn1:=hn1.out
   clear c0 c1 c2 c3 c4 c5 c6 cz ll
   have hCT:=gb1_CT s h N w.heap.size (w.heap.size+1) Y hpk.out hq0.out hq1.out hb0 hb1
   refine (then_BR _ _ F1 _ _ _ Y hp1 hCT hbn1 (fun j h => by rcases h with rfl | rfl;exact heap_lt hb0;exact heap_lt hb1)).mono ?_
   rintro e w' hR
   obtain ⟨v',F',rfl,hX,hp,hbn,hsub,hnF,hbq⟩:=hR.tail (G:=noF) (w.heap.size+1+1) hE (heap_lt hb2) (fun h => by rcases h with h | h | h;exact hn1 h;omega;omega) (fun j h => by rcases h with h | h | h;exact hs1 j h;exact .inr (by omega);exact .inr (by omega))
   have hbx:=hbq.trans hb2
   clear hbq hR
   clear hE hb0 hb1 hb2 hp1 hbn1 hs1 hn1 hCT hpk hq0 hq1
   obtain ⟨y0,y1,a2,fn2,rfl,HFN,HX⟩:=tlR hp hX hbx hbn hsub hnF (by omega)
   obtain ⟨c0,c1,c2,c3,c4,c5,c6,c7,cz,ll⟩:=eit_of hbx
   clear hX hbx hp hbn hsub hnF
   rcases HFN.out with rfl | ⟨g',caps',rfl⟩
   all_goals
    go_wp2
    clear c0 c1 c2 c3 c4 c5 c6 c7 cz ll
    obtain ⟨hX,hB,hP⟩:=HX.out
    clear HX
    generalize (World.setCell _ (⟨w.heap.size+1+1,7,none⟩ : Addr) _) = Z at hX hB hP ⊢
    obtain ⟨c0,c1,c2,c3,c4,c5,c6,c7,cz,ll⟩:=eit_of hB
    exact bodyPost_ret (by simp only [results,Tryz.results127,go_sem];simp [go_sem,c0,c1,c2,c3,c4,c5,c6,c7]) rfl ⟨_,F',rfl,hX,hP⟩
 have ⟨z0,z1,z2,z3,z4,z5,z6,z7,zl⟩:=SBox.plc hb0
 have d2_0:=cell_at (o:=0) hb1 rfl
 have d2_1:=cell_at (o:=1) hb1 rfl
 have d2_2:=cell_at (o:=2) hb1 rfl
 have e2:=cell_lt d2_0
 have d3_0:=cell_at (o:=0) hb3 rfl
 have d3_1:=cell_at (o:=1) hb3 rfl
 have d3_2:=cell_at (o:=2) hb3 rfl
 have e3:=cell_lt d3_0
 clear hK hE hb0 hb1 hb2 hb3 hpk hq0 hq1
 refine wp_region_ways (fun x => ∃ s,x = over X s) (by kernel_rfl) (over_of (ext_drew (ext_refl X))) ?_
 refine ways_reads [0,1,2,3,5,7] (by kernel_rfl) ?_
 simp only [pickL,List.map_cons,List.map_nil,List.getD_cons_zero,List.getD_cons_succ]
 repeat (go_big_quiet_step (fail))
 refine wpQuiet_nil ?_
 have HE:=Lib.hid (ext_drew (ext_refl X))
 clear z0 z1 z2 z3 z4 z5 z6 z7 zl d2_0 d2_1 d2_2 e2 d3_0 d3_1 d3_2 e3
 generalize X.drew = Z0 at HE ⊢
 refine ways_fork 4 (by kernel_rfl) ?_ (ways_act 11 (by kernel_rfl) ?_)
 ·simp only [pickL,List.map_cons,List.map_nil,List.getD_cons_zero,List.getD_cons_succ]
  go_wp2_with (go_at_call 21;refine (HS0.out _).mono ?_;rintro e w' hr;obtain ⟨rfl,s1,rfl⟩:=hr.over;clear hr)
  have HE':=Lib.hid (ext_over s1 HE.out)
  refine mixQ_mk (over_of HE'.out) ?_
  generalize over Z0 s1 = Z1 at HE' ⊢
  clear HE
  have HE:=HE'
  clear HE'
  refine ways_fork 6 (by kernel_rfl) ?_ (ways_act 11 (by kernel_rfl) ?_)
  ·simp only [pickL,List.map_cons,List.map_nil,List.getD_cons_zero,List.getD_cons_succ]
   go_wp2_with (go_at_call 22;refine (HD1.out _).mono ?_;rintro e w' hr;obtain ⟨rfl,s1,rfl⟩:=hr.over;clear hr)
   have HE':=Lib.hid (ext_over s1 HE.out)
   refine mixQ_mk (over_of HE'.out) ?_
   generalize over Z1 s1 = Z2 at HE' ⊢
   clear HE
   have HE:=HE'
   clear HE'
   refine ways_fork 8 (by kernel_rfl) ?_ (ways_act 11 (by kernel_rfl) ?_)
   ·simp only [pickL,List.map_cons,List.map_nil,List.getD_cons_zero,List.getD_cons_succ]
    go_wp2_with (go_at_call 86;refine (HR0.out _).mono ?_;rintro e w' hr;obtain ⟨rfl,s1,rfl⟩:=hr.over;clear hr)
    have HE':=Lib.hid (ext_over s1 HE.out)
    refine mixQ_mk (over_of HE'.out) ?_
    generalize over Z2 s1 = Z3 at HE' ⊢
    clear HE
    have HE:=HE'
    clear HE'
    refine ways_fork 9 (by kernel_rfl) ?_ (ways_act 11 (by kernel_rfl) ?_)
    ·simp only [pickL,List.map_cons,List.map_nil,List.getD_cons_zero,List.getD_cons_succ]
     go_wp2_with (go_at_call 22;refine (HD2.out _).mono ?_;rintro e w' hr;obtain ⟨rfl,s1,rfl⟩:=hr.over;clear hr)
     have HE':=Lib.hid (ext_over s1 HE.out)
     refine mixQ_mk (over_of HE'.out) ?_
     generalize over Z3 s1 = Z4 at HE' ⊢
     clear HE
     have HE:=HE'
     clear HE'
     refine ways_fork 10 (by kernel_rfl) ?_ (ways_act 11 (by kernel_rfl) ?_)
     ·simp only [pickL,List.map_cons,List.map_nil,List.getD_cons_zero,List.getD_cons_succ]
      go_wp2_with (go_at_call 130;refine (try_PT (s.p.stF h.i) zg zr _).mono ?_;rintro e Z5 ⟨v1,F1,rfl,hx,hp1,hbn1,hsub1⟩;refine Hid.out ?_)
      refine Lib.hid ?_
      obtain ⟨y,a2,fn2,rfl,hfn⟩:=shB hp1
      have HE':=Lib.hid (ext_trans HE.out hx)
      have HP1:=Lib.hid hp1
      have HBN1:=Lib.hid hbn1
      have HFN2:=Lib.hid hfn
      have HS1:Hid (∀ j,F1 j → X.heap.size ≤ j):=Lib.hid (fun j hj => (hsub1 j hj).elim (fun h => h.elim) fun h => Nat.le_trans HE.out.size h)
      clear hx hp1 hbn1 hsub1 hfn
      go_wp2
      refine mixQ_mk (over_of HE'.out) ?_
      clear HE
      have HE:=HE'
      clear HE'
      refine ways_act 11 (by kernel_rfl) ?_
      simp only [pickL,List.map_cons,List.map_nil,List.getD_cons_zero,List.getD_cons_succ]
      go_wp2
      have hxa:=ext_alloc (.cells #[.bool false,.int .i64 0,.int .i64 0,.int .u64 0,.int .u64 0,.nilFunc,.pointer none] 218) (ext_refl Z5)
      have HE':=Lib.hid (ext_trans HE.out hxa)
      have HBX':=Lib.hid (heap_at Z5 (.cells #[.bool false,.int .i64 0,.int .i64 0,.int .u64 0,.int .u64 0,.nilFunc,.pointer none] 218) Z5.heap.size rfl)
      have HLX:Hid (X.heap.size ≤ Z5.heap.size):=Lib.hid HE.out.size
      have HP1':=Lib.hid (HP1.out.agr (Agr.of_ext hxa HBN1.out))
      have HBN1':=Lib.hid (HBN1.out.ext hxa.size)
      have HNB:Hid (¬ F1 Z5.heap.size):=Lib.hid (fun h => by have:=HBN1.out _ h;omega)
      clear hxa
      refine mixQ_mk (over_of HE'.out) ?_
      generalize Z5.alloc (.cells #[.bool false,.int .i64 0,.int .i64 0,.int .u64 0,.int .u64 0,.nilFunc,.pointer none] 218) = Z6 at HE' HBX' HP1' HBN1' ⊢
      generalize Z5.heap.size = bx at HBX' HLX HNB ⊢
      clear HE HP1 HBN1
      have HE:=HE'
      clear HE'
      have HP1:=HP1'
      clear HP1'
      have HBN1:=HBN1'
      clear HBN1'
      have HBX:=HBX'
      clear HBX'
      refine ways_act 12 (by kernel_rfl) ?_
      simp only [pickL,List.map_cons,List.map_nil,List.getD_cons_zero,List.getD_cons_succ]
      obtain ⟨k0,k1,k2,k3,k4,k5,k6,kz,kl⟩:=sev_of HBX.out
      have hB:=put7_block (.bool y) (.int .i64 a2.op) (.int .i64 a2.at_) (.int .u64 (U a2.a)) (.int .u64 (U a2.b)) (fn2) (.pointer none) HBX.out
      have hP:=HP1.out.agr (Agr.of_put7 (b:=bx) (.bool y) (.int .i64 a2.op) (.int .i64 a2.at_) (.int .u64 (U a2.a)) (.int .u64 (U a2.b)) (fn2) (.pointer none) HNB.out)
      have hE1:=put7_ext (b:=bx) (.bool y) (.int .i64 a2.op) (.int .i64 a2.at_) (.int .u64 (U a2.a)) (.int .u64 (U a2.b)) (fn2) (.pointer none) HE.out HLX.out
      have hS:(put7 bx (.bool y) (.int .i64 a2.op) (.int .i64 a2.at_) (.int .u64 (U a2.a)) (.int .u64 (U a2.b)) (fn2) (.pointer none) Z6).heap.size = Z6.heap.size:=put7_size (.bool y) (.int .i64 a2.op) (.int .i64 a2.at_) (.int .u64 (U a2.a)) (.int .u64 (U a2.b)) (fn2) (.pointer none)
      have hbn:Bnd F1 (put7 bx (.bool y) (.int .i64 a2.op) (.int .i64 a2.at_) (.int .u64 (U a2.a)) (.int .u64 (U a2.b)) (fn2) (.pointer none) Z6):=HBN1.out.ext (Nat.le_of_eq hS.symm)
      rw [put7] at hB hP hE1 hbn
      have HY:=Lib.hid (And.intro hB (And.intro hP (And.intro hE1 hbn)))
      clear hB hP hE1 hS hbn HBX HP1 HBN1 HE
      have hsf:=store_fn HFN2.out
      go_wp2
      obtain ⟨hB,hP,hE1,hbn⟩:=HY.out
      clear HY k0 k1 k2 k3 k4 k5 k6 kz kl hsf
      generalize (World.setCell _ (⟨bx,6,none⟩ : Addr) _) = Y at hB hP hE1 hbn ⊢
      refine mixQ_mk (over_of hE1) (ways_end (by kernel_rfl) ?_)
      exact HREST bx Y y a2 fn2 F1 hE1 hB hP hbn HS1.out HNB.out HFN2.out
     ·simp only [pickL,List.map_cons,List.map_nil,List.getD_cons_zero,List.getD_cons_succ]
      go_wp2
      have hxa:=ext_alloc (.cells #[.bool false,.int .i64 0,.int .i64 0,.int .u64 0,.int .u64 0,.nilFunc,.pointer none] 218) (ext_refl Z4)
      have HE':=Lib.hid (ext_trans HE.out hxa)
      have HBX':=Lib.hid (heap_at Z4 (.cells #[.bool false,.int .i64 0,.int .i64 0,.int .u64 0,.int .u64 0,.nilFunc,.pointer none] 218) Z4.heap.size rfl)
      have HLX:Hid (X.heap.size ≤ Z4.heap.size):=Lib.hid HE.out.size
      clear hxa
      refine mixQ_mk (over_of HE'.out) ?_
      generalize Z4.alloc (.cells #[.bool false,.int .i64 0,.int .i64 0,.int .u64 0,.int .u64 0,.nilFunc,.pointer none] 218) = Z5 at HE' HBX' ⊢
      generalize Z4.heap.size = bx at HBX' HLX ⊢
      clear HE
      have HE:=HE'
      clear HE'
      have HBX:=HBX'
      clear HBX'
      refine ways_act 10 (by kernel_rfl) ?_
      simp only [pickL,List.map_cons,List.map_nil,List.getD_cons_zero,List.getD_cons_succ]
      go_wp2_with (go_at_call 130;refine (try_PT (s.p.stF h.i) zg zr _).mono ?_;rintro e Z6 ⟨v1,F1,rfl,hx,hp1,hbn1,hsub1⟩;refine Hid.out ?_)
      refine Lib.hid ?_
      obtain ⟨y,a2,fn2,rfl,hfn⟩:=shB hp1
      have HE':=Lib.hid (ext_trans HE.out hx)
      have HP1:=Lib.hid hp1
      have HBN1:=Lib.hid hbn1
      have HFN2:=Lib.hid hfn
      have HS1:Hid (∀ j,F1 j → X.heap.size ≤ j):=Lib.hid (fun j hj => (hsub1 j hj).elim (fun h => h.elim) fun h => Nat.le_trans HE.out.size h)
      have HNB:Hid (¬ F1 bx):=Lib.hid (fun h => (hsub1 _ h).elim (fun h => h) fun h => by have:=heap_lt HBX.out;omega)
      have HBX':=Lib.hid ((hx.block _ (heap_lt HBX.out)).trans HBX.out)
      clear hx hp1 hbn1 hsub1 hfn
      go_wp2
      refine mixQ_mk (over_of HE'.out) ?_
      clear HE HBX
      have HE:=HE'
      clear HE'
      have HBX:=HBX'
      clear HBX'
      refine ways_act 12 (by kernel_rfl) ?_
      simp only [pickL,List.map_cons,List.map_nil,List.getD_cons_zero,List.getD_cons_succ]
      obtain ⟨k0,k1,k2,k3,k4,k5,k6,kz,kl⟩:=sev_of HBX.out
      have hB:=put7_block (.bool y) (.int .i64 a2.op) (.int .i64 a2.at_) (.int .u64 (U a2.a)) (.int .u64 (U a2.b)) (fn2) (.pointer none) HBX.out
      have hP:=HP1.out.agr (Agr.of_put7 (b:=bx) (.bool y) (.int .i64 a2.op) (.int .i64 a2.at_) (.int .u64 (U a2.a)) (.int .u64 (U a2.b)) (fn2) (.pointer none) HNB.out)
      have hE1:=put7_ext (b:=bx) (.bool y) (.int .i64 a2.op) (.int .i64 a2.at_) (.int .u64 (U a2.a)) (.int .u64 (U a2.b)) (fn2) (.pointer none) HE.out HLX.out
      have hS:(put7 bx (.bool y) (.int .i64 a2.op) (.int .i64 a2.at_) (.int .u64 (U a2.a)) (.int .u64 (U a2.b)) (fn2) (.pointer none) Z6).heap.size = Z6.heap.size:=put7_size (.bool y) (.int .i64 a2.op) (.int .i64 a2.at_) (.int .u64 (U a2.a)) (.int .u64 (U a2.b)) (fn2) (.pointer none)
      have hbn:Bnd F1 (put7 bx (.bool y) (.int .i64 a2.op) (.int .i64 a2.at_) (.int .u64 (U a2.a)) (.int .u64 (U a2.b)) (fn2) (.pointer none) Z6):=HBN1.out.ext (Nat.le_of_eq hS.symm)
      rw [put7] at hB hP hE1 hbn
      have HY:=Lib.hid (And.intro hB (And.intro hP (And.intro hE1 hbn)))
      clear hB hP hE1 hS hbn HBX HP1 HBN1 HE
      have hsf:=store_fn HFN2.out
      go_wp2
      obtain ⟨hB,hP,hE1,hbn⟩:=HY.out
      clear HY k0 k1 k2 k3 k4 k5 k6 kz kl hsf
      generalize (World.setCell _ (⟨bx,6,none⟩ : Addr) _) = Y at hB hP hE1 hbn ⊢
      refine mixQ_mk (over_of hE1) (ways_end (by kernel_rfl) ?_)
      exact HREST bx Y y a2 fn2 F1 hE1 hB hP hbn HS1.out HNB.out HFN2.out
    ·simp only [pickL,List.map_cons,List.map_nil,List.getD_cons_zero,List.getD_cons_succ]
     go_wp2
     have hxa:=ext_alloc (.cells #[.bool false,.int .i64 0,.int .i64 0,.int .u64 0,.int .u64 0,.nilFunc,.pointer none] 218) (ext_refl Z3)
     have HE':=Lib.hid (ext_trans HE.out hxa)
     have HBX':=Lib.hid (heap_at Z3 (.cells #[.bool false,.int .i64 0,.int .i64 0,.int .u64 0,.int .u64 0,.nilFunc,.pointer none] 218) Z3.heap.size rfl)
     have HLX:Hid (X.heap.size ≤ Z3.heap.size):=Lib.hid HE.out.size
     clear hxa
     refine mixQ_mk (over_of HE'.out) ?_
     generalize Z3.alloc (.cells #[.bool false,.int .i64 0,.int .i64 0,.int .u64 0,.int .u64 0,.nilFunc,.pointer none] 218) = Z4 at HE' HBX' ⊢
     generalize Z3.heap.size = bx at HBX' HLX ⊢
     clear HE
     have HE:=HE'
     clear HE'
     have HBX:=HBX'
     clear HBX'
     refine ways_act 9 (by kernel_rfl) ?_
     simp only [pickL,List.map_cons,List.map_nil,List.getD_cons_zero,List.getD_cons_succ]
     go_wp2_with (go_at_call 22;refine (HD2.out _).mono ?_;rintro e w' hr;obtain ⟨rfl,s1,rfl⟩:=hr.over;clear hr)
     have HE':=Lib.hid (ext_over s1 HE.out)
     have HBX':=Lib.hid (((over_below Z4 s1).block _ (heap_lt HBX.out)).trans HBX.out)
     refine mixQ_mk (over_of HE'.out) ?_
     generalize over Z4 s1 = Z5 at HE' HBX' ⊢
     clear HE HBX
     have HE:=HE'
     clear HE'
     have HBX:=HBX'
     clear HBX'
     refine ways_act 10 (by kernel_rfl) ?_
     simp only [pickL,List.map_cons,List.map_nil,List.getD_cons_zero,List.getD_cons_succ]
     go_wp2_with (go_at_call 130;refine (try_PT (s.p.stF h.i) zg zr _).mono ?_;rintro e Z6 ⟨v1,F1,rfl,hx,hp1,hbn1,hsub1⟩;refine Hid.out ?_)
     refine Lib.hid ?_
     obtain ⟨y,a2,fn2,rfl,hfn⟩:=shB hp1
     have HE':=Lib.hid (ext_trans HE.out hx)
     have HP1:=Lib.hid hp1
     have HBN1:=Lib.hid hbn1
     have HFN2:=Lib.hid hfn
     have HS1:Hid (∀ j,F1 j → X.heap.size ≤ j):=Lib.hid (fun j hj => (hsub1 j hj).elim (fun h => h.elim) fun h => Nat.le_trans HE.out.size h)
     have HNB:Hid (¬ F1 bx):=Lib.hid (fun h => (hsub1 _ h).elim (fun h => h) fun h => by have:=heap_lt HBX.out;omega)
     have HBX':=Lib.hid ((hx.block _ (heap_lt HBX.out)).trans HBX.out)
     clear hx hp1 hbn1 hsub1 hfn
     go_wp2
     refine mixQ_mk (over_of HE'.out) ?_
     clear HE HBX
     have HE:=HE'
     clear HE'
     have HBX:=HBX'
     clear HBX'
     refine ways_act 12 (by kernel_rfl) ?_
     simp only [pickL,List.map_cons,List.map_nil,List.getD_cons_zero,List.getD_cons_succ]
     obtain ⟨k0,k1,k2,k3,k4,k5,k6,kz,kl⟩:=sev_of HBX.out
     have hB:=put7_block (.bool y) (.int .i64 a2.op) (.int .i64 a2.at_) (.int .u64 (U a2.a)) (.int .u64 (U a2.b)) (fn2) (.pointer none) HBX.out
     have hP:=HP1.out.agr (Agr.of_put7 (b:=bx) (.bool y) (.int .i64 a2.op) (.int .i64 a2.at_) (.int .u64 (U a2.a)) (.int .u64 (U a2.b)) (fn2) (.pointer none) HNB.out)
     have hE1:=put7_ext (b:=bx) (.bool y) (.int .i64 a2.op) (.int .i64 a2.at_) (.int .u64 (U a2.a)) (.int .u64 (U a2.b)) (fn2) (.pointer none) HE.out HLX.out
     have hS:(put7 bx (.bool y) (.int .i64 a2.op) (.int .i64 a2.at_) (.int .u64 (U a2.a)) (.int .u64 (U a2.b)) (fn2) (.pointer none) Z6).heap.size = Z6.heap.size:=put7_size (.bool y) (.int .i64 a2.op) (.int .i64 a2.at_) (.int .u64 (U a2.a)) (.int .u64 (U a2.b)) (fn2) (.pointer none)
     have hbn:Bnd F1 (put7 bx (.bool y) (.int .i64 a2.op) (.int .i64 a2.at_) (.int .u64 (U a2.a)) (.int .u64 (U a2.b)) (fn2) (.pointer none) Z6):=HBN1.out.ext (Nat.le_of_eq hS.symm)
     rw [put7] at hB hP hE1 hbn
     have HY:=Lib.hid (And.intro hB (And.intro hP (And.intro hE1 hbn)))
     clear hB hP hE1 hS hbn HBX HP1 HBN1 HE
     have hsf:=store_fn HFN2.out
     go_wp2
     obtain ⟨hB,hP,hE1,hbn⟩:=HY.out
     clear HY k0 k1 k2 k3 k4 k5 k6 kz kl hsf
     generalize (World.setCell _ (⟨bx,6,none⟩ : Addr) _) = Y at hB hP hE1 hbn ⊢
     refine mixQ_mk (over_of hE1) (ways_end (by kernel_rfl) ?_)
     exact HREST bx Y y a2 fn2 F1 hE1 hB hP hbn HS1.out HNB.out HFN2.out
   ·simp only [pickL,List.map_cons,List.map_nil,List.getD_cons_zero,List.getD_cons_succ]
    go_wp2
    have hxa:=ext_alloc (.cells #[.bool false,.int .i64 0,.int .i64 0,.int .u64 0,.int .u64 0,.nilFunc,.pointer none] 218) (ext_refl Z2)
    have HE':=Lib.hid (ext_trans HE.out hxa)
    have HBX':=Lib.hid (heap_at Z2 (.cells #[.bool false,.int .i64 0,.int .i64 0,.int .u64 0,.int .u64 0,.nilFunc,.pointer none] 218) Z2.heap.size rfl)
    have HLX:Hid (X.heap.size ≤ Z2.heap.size):=Lib.hid HE.out.size
    clear hxa
    refine mixQ_mk (over_of HE'.out) ?_
    generalize Z2.alloc (.cells #[.bool false,.int .i64 0,.int .i64 0,.int .u64 0,.int .u64 0,.nilFunc,.pointer none] 218) = Z3 at HE' HBX' ⊢
    generalize Z2.heap.size = bx at HBX' HLX ⊢
    clear HE
    have HE:=HE'
    clear HE'
    have HBX:=HBX'
    clear HBX'
    refine ways_act 8 (by kernel_rfl) ?_
    simp only [pickL,List.map_cons,List.map_nil,List.getD_cons_zero,List.getD_cons_succ]
    go_wp2_with (go_at_call 86;refine (HR0.out _).mono ?_;rintro e w' hr;obtain ⟨rfl,s1,rfl⟩:=hr.over;clear hr)
    have HE':=Lib.hid (ext_over s1 HE.out)
    have HBX':=Lib.hid (((over_below Z3 s1).block _ (heap_lt HBX.out)).trans HBX.out)
    refine mixQ_mk (over_of HE'.out) ?_
    generalize over Z3 s1 = Z4 at HE' HBX' ⊢
    clear HE HBX
    have HE:=HE'
    clear HE'
    have HBX:=HBX'
    clear HBX'
    refine ways_act 9 (by kernel_rfl) ?_
    simp only [pickL,List.map_cons,List.map_nil,List.getD_cons_zero,List.getD_cons_succ]
    go_wp2_with (go_at_call 22;refine (HD2.out _).mono ?_;rintro e w' hr;obtain ⟨rfl,s1,rfl⟩:=hr.over;clear hr)
    have HE':=Lib.hid (ext_over s1 HE.out)
    have HBX':=Lib.hid (((over_below Z4 s1).block _ (heap_lt HBX.out)).trans HBX.out)
    refine mixQ_mk (over_of HE'.out) ?_
    generalize over Z4 s1 = Z5 at HE' HBX' ⊢
    clear HE HBX
    have HE:=HE'
    clear HE'
    have HBX:=HBX'
    clear HBX'
    refine ways_act 10 (by kernel_rfl) ?_
    simp only [pickL,List.map_cons,List.map_nil,List.getD_cons_zero,List.getD_cons_succ]
    go_wp2_with (go_at_call 130;refine (try_PT (s.p.stF h.i) zg zr _).mono ?_;rintro e Z6 ⟨v1,F1,rfl,hx,hp1,hbn1,hsub1⟩;refine Hid.out ?_)
    refine Lib.hid ?_
    obtain ⟨y,a2,fn2,rfl,hfn⟩:=shB hp1
    have HE':=Lib.hid (ext_trans HE.out hx)
    have HP1:=Lib.hid hp1
    have HBN1:=Lib.hid hbn1
    have HFN2:=Lib.hid hfn
    have HS1:Hid (∀ j,F1 j → X.heap.size ≤ j):=Lib.hid (fun j hj => (hsub1 j hj).elim (fun h => h.elim) fun h => Nat.le_trans HE.out.size h)
    have HNB:Hid (¬ F1 bx):=Lib.hid (fun h => (hsub1 _ h).elim (fun h => h) fun h => by have:=heap_lt HBX.out;omega)
    have HBX':=Lib.hid ((hx.block _ (heap_lt HBX.out)).trans HBX.out)
    clear hx hp1 hbn1 hsub1 hfn
    go_wp2
    refine mixQ_mk (over_of HE'.out) ?_
    clear HE HBX
    have HE:=HE'
    clear HE'
    have HBX:=HBX'
    clear HBX'
    refine ways_act 12 (by kernel_rfl) ?_
    simp only [pickL,List.map_cons,List.map_nil,List.getD_cons_zero,List.getD_cons_succ]
    obtain ⟨k0,k1,k2,k3,k4,k5,k6,kz,kl⟩:=sev_of HBX.out
    have hB:=put7_block (.bool y) (.int .i64 a2.op) (.int .i64 a2.at_) (.int .u64 (U a2.a)) (.int .u64 (U a2.b)) (fn2) (.pointer none) HBX.out
    have hP:=HP1.out.agr (Agr.of_put7 (b:=bx) (.bool y) (.int .i64 a2.op) (.int .i64 a2.at_) (.int .u64 (U a2.a)) (.int .u64 (U a2.b)) (fn2) (.pointer none) HNB.out)
    have hE1:=put7_ext (b:=bx) (.bool y) (.int .i64 a2.op) (.int .i64 a2.at_) (.int .u64 (U a2.a)) (.int .u64 (U a2.b)) (fn2) (.pointer none) HE.out HLX.out
    have hS:(put7 bx (.bool y) (.int .i64 a2.op) (.int .i64 a2.at_) (.int .u64 (U a2.a)) (.int .u64 (U a2.b)) (fn2) (.pointer none) Z6).heap.size = Z6.heap.size:=put7_size (.bool y) (.int .i64 a2.op) (.int .i64 a2.at_) (.int .u64 (U a2.a)) (.int .u64 (U a2.b)) (fn2) (.pointer none)
    have hbn:Bnd F1 (put7 bx (.bool y) (.int .i64 a2.op) (.int .i64 a2.at_) (.int .u64 (U a2.a)) (.int .u64 (U a2.b)) (fn2) (.pointer none) Z6):=HBN1.out.ext (Nat.le_of_eq hS.symm)
    rw [put7] at hB hP hE1 hbn
    have HY:=Lib.hid (And.intro hB (And.intro hP (And.intro hE1 hbn)))
    clear hB hP hE1 hS hbn HBX HP1 HBN1 HE
    have hsf:=store_fn HFN2.out
    go_wp2
    obtain ⟨hB,hP,hE1,hbn⟩:=HY.out
    clear HY k0 k1 k2 k3 k4 k5 k6 kz kl hsf
    generalize (World.setCell _ (⟨bx,6,none⟩ : Addr) _) = Y at hB hP hE1 hbn ⊢
    refine mixQ_mk (over_of hE1) (ways_end (by kernel_rfl) ?_)
    exact HREST bx Y y a2 fn2 F1 hE1 hB hP hbn HS1.out HNB.out HFN2.out
  ·simp only [pickL,List.map_cons,List.map_nil,List.getD_cons_zero,List.getD_cons_succ]
   go_wp2
   have hxa:=ext_alloc (.cells #[.bool false,.int .i64 0,.int .i64 0,.int .u64 0,.int .u64 0,.nilFunc,.pointer none] 218) (ext_refl Z1)
   have HE':=Lib.hid (ext_trans HE.out hxa)
   have HBX':=Lib.hid (heap_at Z1 (.cells #[.bool false,.int .i64 0,.int .i64 0,.int .u64 0,.int .u64 0,.nilFunc,.pointer none] 218) Z1.heap.size rfl)
   have HLX:Hid (X.heap.size ≤ Z1.heap.size):=Lib.hid HE.out.size
   clear hxa
   refine mixQ_mk (over_of HE'.out) ?_
   generalize Z1.alloc (.cells #[.bool false,.int .i64 0,.int .i64 0,.int .u64 0,.int .u64 0,.nilFunc,.pointer none] 218) = Z2 at HE' HBX' ⊢
   generalize Z1.heap.size = bx at HBX' HLX ⊢
   clear HE
   have HE:=HE'
   clear HE'
   have HBX:=HBX'
   clear HBX'
   refine ways_act 6 (by kernel_rfl) ?_
   simp only [pickL,List.map_cons,List.map_nil,List.getD_cons_zero,List.getD_cons_succ]
   go_wp2_with (go_at_call 22;refine (HD1.out _).mono ?_;rintro e w' hr;obtain ⟨rfl,s1,rfl⟩:=hr.over;clear hr)
   have HE':=Lib.hid (ext_over s1 HE.out)
   have HBX':=Lib.hid (((over_below Z2 s1).block _ (heap_lt HBX.out)).trans HBX.out)
   refine mixQ_mk (over_of HE'.out) ?_
   generalize over Z2 s1 = Z3 at HE' HBX' ⊢
   clear HE HBX
   have HE:=HE'
   clear HE'
   have HBX:=HBX'
   clear HBX'
   refine ways_act 8 (by kernel_rfl) ?_
   simp only [pickL,List.map_cons,List.map_nil,List.getD_cons_zero,List.getD_cons_succ]
   go_wp2_with (go_at_call 86;refine (HR0.out _).mono ?_;rintro e w' hr;obtain ⟨rfl,s1,rfl⟩:=hr.over;clear hr)
   have HE':=Lib.hid (ext_over s1 HE.out)
   have HBX':=Lib.hid (((over_below Z3 s1).block _ (heap_lt HBX.out)).trans HBX.out)
   refine mixQ_mk (over_of HE'.out) ?_
   generalize over Z3 s1 = Z4 at HE' HBX' ⊢
   clear HE HBX
   have HE:=HE'
   clear HE'
   have HBX:=HBX'
   clear HBX'
   refine ways_act 9 (by kernel_rfl) ?_
   simp only [pickL,List.map_cons,List.map_nil,List.getD_cons_zero,List.getD_cons_succ]
   go_wp2_with (go_at_call 22;refine (HD2.out _).mono ?_;rintro e w' hr;obtain ⟨rfl,s1,rfl⟩:=hr.over;clear hr)
   have HE':=Lib.hid (ext_over s1 HE.out)
   have HBX':=Lib.hid (((over_below Z4 s1).block _ (heap_lt HBX.out)).trans HBX.out)
   refine mixQ_mk (over_of HE'.out) ?_
   generalize over Z4 s1 = Z5 at HE' HBX' ⊢
   clear HE HBX
   have HE:=HE'
   clear HE'
   have HBX:=HBX'
   clear HBX'
   refine ways_act 10 (by kernel_rfl) ?_
   simp only [pickL,List.map_cons,List.map_nil,List.getD_cons_zero,List.getD_cons_succ]
   go_wp2_with (go_at_call 130;refine (try_PT (s.p.stF h.i) zg zr _).mono ?_;rintro e Z6 ⟨v1,F1,rfl,hx,hp1,hbn1,hsub1⟩;refine Hid.out ?_)
   refine Lib.hid ?_
   obtain ⟨y,a2,fn2,rfl,hfn⟩:=shB hp1
   have HE':=Lib.hid (ext_trans HE.out hx)
   have HP1:=Lib.hid hp1
   have HBN1:=Lib.hid hbn1
   have HFN2:=Lib.hid hfn
   have HS1:Hid (∀ j,F1 j → X.heap.size ≤ j):=Lib.hid (fun j hj => (hsub1 j hj).elim (fun h => h.elim) fun h => Nat.le_trans HE.out.size h)
   have HNB:Hid (¬ F1 bx):=Lib.hid (fun h => (hsub1 _ h).elim (fun h => h) fun h => by have:=heap_lt HBX.out;omega)
   have HBX':=Lib.hid ((hx.block _ (heap_lt HBX.out)).trans HBX.out)
   clear hx hp1 hbn1 hsub1 hfn
   go_wp2
   refine mixQ_mk (over_of HE'.out) ?_
   clear HE HBX
   have HE:=HE'
   clear HE'
   have HBX:=HBX'
   clear HBX'
   refine ways_act 12 (by kernel_rfl) ?_
   simp only [pickL,List.map_cons,List.map_nil,List.getD_cons_zero,List.getD_cons_succ]
   obtain ⟨k0,k1,k2,k3,k4,k5,k6,kz,kl⟩:=sev_of HBX.out
   have hB:=put7_block (.bool y) (.int .i64 a2.op) (.int .i64 a2.at_) (.int .u64 (U a2.a)) (.int .u64 (U a2.b)) (fn2) (.pointer none) HBX.out
   have hP:=HP1.out.agr (Agr.of_put7 (b:=bx) (.bool y) (.int .i64 a2.op) (.int .i64 a2.at_) (.int .u64 (U a2.a)) (.int .u64 (U a2.b)) (fn2) (.pointer none) HNB.out)
   have hE1:=put7_ext (b:=bx) (.bool y) (.int .i64 a2.op) (.int .i64 a2.at_) (.int .u64 (U a2.a)) (.int .u64 (U a2.b)) (fn2) (.pointer none) HE.out HLX.out
   have hS:(put7 bx (.bool y) (.int .i64 a2.op) (.int .i64 a2.at_) (.int .u64 (U a2.a)) (.int .u64 (U a2.b)) (fn2) (.pointer none) Z6).heap.size = Z6.heap.size:=put7_size (.bool y) (.int .i64 a2.op) (.int .i64 a2.at_) (.int .u64 (U a2.a)) (.int .u64 (U a2.b)) (fn2) (.pointer none)
   have hbn:Bnd F1 (put7 bx (.bool y) (.int .i64 a2.op) (.int .i64 a2.at_) (.int .u64 (U a2.a)) (.int .u64 (U a2.b)) (fn2) (.pointer none) Z6):=HBN1.out.ext (Nat.le_of_eq hS.symm)
   rw [put7] at hB hP hE1 hbn
   have HY:=Lib.hid (And.intro hB (And.intro hP (And.intro hE1 hbn)))
   clear hB hP hE1 hS hbn HBX HP1 HBN1 HE
   have hsf:=store_fn HFN2.out
   go_wp2
   obtain ⟨hB,hP,hE1,hbn⟩:=HY.out
   clear HY k0 k1 k2 k3 k4 k5 k6 kz kl hsf
   generalize (World.setCell _ (⟨bx,6,none⟩ : Addr) _) = Y at hB hP hE1 hbn ⊢
   refine mixQ_mk (over_of hE1) (ways_end (by kernel_rfl) ?_)
   exact HREST bx Y y a2 fn2 F1 hE1 hB hP hbn HS1.out HNB.out HFN2.out
 ·simp only [pickL,List.map_cons,List.map_nil,List.getD_cons_zero,List.getD_cons_succ]
  go_wp2
  have hxa:=ext_alloc (.cells #[.bool false,.int .i64 0,.int .i64 0,.int .u64 0,.int .u64 0,.nilFunc,.pointer none] 218) (ext_refl Z0)
  have HE':=Lib.hid (ext_trans HE.out hxa)
  have HBX':=Lib.hid (heap_at Z0 (.cells #[.bool false,.int .i64 0,.int .i64 0,.int .u64 0,.int .u64 0,.nilFunc,.pointer none] 218) Z0.heap.size rfl)
  have HLX:Hid (X.heap.size ≤ Z0.heap.size):=Lib.hid HE.out.size
  clear hxa
  refine mixQ_mk (over_of HE'.out) ?_
  generalize Z0.alloc (.cells #[.bool false,.int .i64 0,.int .i64 0,.int .u64 0,.int .u64 0,.nilFunc,.pointer none] 218) = Z1 at HE' HBX' ⊢
  generalize Z0.heap.size = bx at HBX' HLX ⊢
  clear HE
  have HE:=HE'
  clear HE'
  have HBX:=HBX'
  clear HBX'
  refine ways_act 4 (by kernel_rfl) ?_
  simp only [pickL,List.map_cons,List.map_nil,List.getD_cons_zero,List.getD_cons_succ]
  go_wp2_with (go_at_call 21;refine (HS0.out _).mono ?_;rintro e w' hr;obtain ⟨rfl,s1,rfl⟩:=hr.over;clear hr)
  have HE':=Lib.hid (ext_over s1 HE.out)
  have HBX':=Lib.hid (((over_below Z1 s1).block _ (heap_lt HBX.out)).trans HBX.out)
  refine mixQ_mk (over_of HE'.out) ?_
  generalize over Z1 s1 = Z2 at HE' HBX' ⊢
  clear HE HBX
  have HE:=HE'
  clear HE'
  have HBX:=HBX'
  clear HBX'
  refine ways_act 6 (by kernel_rfl) ?_
  simp only [pickL,List.map_cons,List.map_nil,List.getD_cons_zero,List.getD_cons_succ]
  go_wp2_with (go_at_call 22;refine (HD1.out _).mono ?_;rintro e w' hr;obtain ⟨rfl,s1,rfl⟩:=hr.over;clear hr)
  have HE':=Lib.hid (ext_over s1 HE.out)
  have HBX':=Lib.hid (((over_below Z2 s1).block _ (heap_lt HBX.out)).trans HBX.out)
  refine mixQ_mk (over_of HE'.out) ?_
  generalize over Z2 s1 = Z3 at HE' HBX' ⊢
  clear HE HBX
  have HE:=HE'
  clear HE'
  have HBX:=HBX'
  clear HBX'
  refine ways_act 8 (by kernel_rfl) ?_
  simp only [pickL,List.map_cons,List.map_nil,List.getD_cons_zero,List.getD_cons_succ]
  go_wp2_with (go_at_call 86;refine (HR0.out _).mono ?_;rintro e w' hr;obtain ⟨rfl,s1,rfl⟩:=hr.over;clear hr)
  have HE':=Lib.hid (ext_over s1 HE.out)
  have HBX':=Lib.hid (((over_below Z3 s1).block _ (heap_lt HBX.out)).trans HBX.out)
  refine mixQ_mk (over_of HE'.out) ?_
  generalize over Z3 s1 = Z4 at HE' HBX' ⊢
  clear HE HBX
  have HE:=HE'
  clear HE'
  have HBX:=HBX'
  clear HBX'
  refine ways_act 9 (by kernel_rfl) ?_
  simp only [pickL,List.map_cons,List.map_nil,List.getD_cons_zero,List.getD_cons_succ]
  go_wp2_with (go_at_call 22;refine (HD2.out _).mono ?_;rintro e w' hr;obtain ⟨rfl,s1,rfl⟩:=hr.over;clear hr)
  have HE':=Lib.hid (ext_over s1 HE.out)
  have HBX':=Lib.hid (((over_below Z4 s1).block _ (heap_lt HBX.out)).trans HBX.out)
  refine mixQ_mk (over_of HE'.out) ?_
  generalize over Z4 s1 = Z5 at HE' HBX' ⊢
  clear HE HBX
  have HE:=HE'
  clear HE'
  have HBX:=HBX'
  clear HBX'
  refine ways_act 10 (by kernel_rfl) ?_
  simp only [pickL,List.map_cons,List.map_nil,List.getD_cons_zero,List.getD_cons_succ]
  go_wp2_with (go_at_call 130;refine (try_PT (s.p.stF h.i) zg zr _).mono ?_;rintro e Z6 ⟨v1,F1,rfl,hx,hp1,hbn1,hsub1⟩;refine Hid.out ?_)
  refine Lib.hid ?_
  obtain ⟨y,a2,fn2,rfl,hfn⟩:=shB hp1
  have HE':=Lib.hid (ext_trans HE.out hx)
  have HP1:=Lib.hid hp1
  have HBN1:=Lib.hid hbn1
  have HFN2:=Lib.hid hfn
  have HS1:Hid (∀ j,F1 j → X.heap.size ≤ j):=Lib.hid (fun j hj => (hsub1 j hj).elim (fun h => h.elim) fun h => Nat.le_trans HE.out.size h)
  have HNB:Hid (¬ F1 bx):=Lib.hid (fun h => (hsub1 _ h).elim (fun h => h) fun h => by have:=heap_lt HBX.out;omega)
  have HBX':=Lib.hid ((hx.block _ (heap_lt HBX.out)).trans HBX.out)
  clear hx hp1 hbn1 hsub1 hfn
  go_wp2
  refine mixQ_mk (over_of HE'.out) ?_
  clear HE HBX
  have HE:=HE'
  clear HE'
  have HBX:=HBX'
  clear HBX'
  refine ways_act 12 (by kernel_rfl) ?_
  simp only [pickL,List.map_cons,List.map_nil,List.getD_cons_zero,List.getD_cons_succ]
  obtain ⟨k0,k1,k2,k3,k4,k5,k6,kz,kl⟩:=sev_of HBX.out
  have hB:=put7_block (.bool y) (.int .i64 a2.op) (.int .i64 a2.at_) (.int .u64 (U a2.a)) (.int .u64 (U a2.b)) (fn2) (.pointer none) HBX.out
  have hP:=HP1.out.agr (Agr.of_put7 (b:=bx) (.bool y) (.int .i64 a2.op) (.int .i64 a2.at_) (.int .u64 (U a2.a)) (.int .u64 (U a2.b)) (fn2) (.pointer none) HNB.out)
  have hE1:=put7_ext (b:=bx) (.bool y) (.int .i64 a2.op) (.int .i64 a2.at_) (.int .u64 (U a2.a)) (.int .u64 (U a2.b)) (fn2) (.pointer none) HE.out HLX.out
  have hS:(put7 bx (.bool y) (.int .i64 a2.op) (.int .i64 a2.at_) (.int .u64 (U a2.a)) (.int .u64 (U a2.b)) (fn2) (.pointer none) Z6).heap.size = Z6.heap.size:=put7_size (.bool y) (.int .i64 a2.op) (.int .i64 a2.at_) (.int .u64 (U a2.a)) (.int .u64 (U a2.b)) (fn2) (.pointer none)
  have hbn:Bnd F1 (put7 bx (.bool y) (.int .i64 a2.op) (.int .i64 a2.at_) (.int .u64 (U a2.a)) (.int .u64 (U a2.b)) (fn2) (.pointer none) Z6):=HBN1.out.ext (Nat.le_of_eq hS.symm)
  rw [put7] at hB hP hE1 hbn
  have HY:=Lib.hid (And.intro hB (And.intro hP (And.intro hE1 hbn)))
  clear hB hP hE1 hS hbn HBX HP1 HBN1 HE
  have hsf:=store_fn HFN2.out
  go_wp2
  obtain ⟨hB,hP,hE1,hbn⟩:=HY.out
  clear HY k0 k1 k2 k3 k4 k5 k6 kz kl hsf
  generalize (World.setCell _ (⟨bx,6,none⟩ : Addr) _) = Y at hB hP hE1 hbn ⊢
  refine mixQ_mk (over_of hE1) (ways_end (by kernel_rfl) ?_)
  exact HREST bx Y y a2 fn2 F1 hE1 hB hP hbn HS1.out HNB.out HFN2.out
theorem drp1_PT (s:Se) (h:Hn) (N:Nat) (B1 B2:Nat) (w:World) (hpk:s.p.ok) (hq0:0 ≤ h.i) (hq1:h.i < 4611686018427387904) (k1:SBox B1 s w) (k2:w.heap[B2]? = some (.cells #[.int .i64 h.i,.int .i64 h.g,.int .i64 h.t] 107 (0,0))) :
  Calls Tryz.prog 126 #[.pointer (some ⟨B1,0,none⟩),.pointer (some ⟨B2,0,none⟩)] w (RetP (PT kR (gbT s.p s.th h N)) noF w):=by
 have qk1:=heap_lt k1
 have ⟨z0,z1,z2,z3,z4,z5,z6,z7,zl⟩:=SBox.plc k1
 have qk2:=heap_lt k2
 have d2_0:=cell_at (o:=0) k2 rfl
 have d2_1:=cell_at (o:=1) k2 rfl
 have d2_2:=cell_at (o:=2) k2 rfl
 have e2:=cell_lt d2_0
 replace k1:=Lib.hid k1
 replace k2:=Lib.hid k2
 replace hpk:=Lib.hid hpk
 replace hq0:=Lib.hid hq0
 replace hq1:=Lib.hid hq1
 go_enter Tryz.func126,Tryz.ntmps126
 go_wp2_with (go_at_call 127;refine Hid.out ?_)
 refine Lib.hid ?_
 have ⟨hE,hb0,hW⟩:=al1 w (.cells #[.int .i64 0,.int .u64 0,.int .i64 0,.int .i64 0,.int .u64 0,.int .u64 0,.nilFunc,.pointer none] 99)
 generalize (w.alloc (.cells #[.int .i64 0,.int .u64 0,.int .i64 0,.int .i64 0,.int .u64 0,.int .u64 0,.nilFunc,.pointer none] 99)) = W at hE hb0 hW ⊢
 replace k1:=(hE.block _ (heap_lt k1.out)).trans k1.out
 replace k2:=(hE.block _ (heap_lt k2.out)).trans k2.out
 clear hW
 clear z0 z1 z2 z3 z4 z5 z6 z7 zl d2_0 d2_1 d2_2 e2
 refine (gb_PT s h N W hpk.out hq0.out hq1.out).mono ?_
 rintro e w' hR
 obtain ⟨v',F',rfl,hX,hp,hbn,hsub,hnF,hbq⟩:=hR.tail (G:=noF) (w.heap.size) hE (heap_lt hb0) (fun h => h) (fun _ h => h.elim)
 have hbx:=hbq.trans hb0
 clear hbq hR
 clear hE hb0 k1 k2 hpk hq0 hq1
 obtain ⟨y0,y1,a2,fn2,rfl,HFN,HX⟩:=tlR hp hX hbx hbn hsub hnF (by omega)
 obtain ⟨c0,c1,c2,c3,c4,c5,c6,c7,cz,ll⟩:=eit_of hbx
 clear hX hbx hp hbn hsub hnF
 rcases HFN.out with rfl | ⟨g',caps',rfl⟩
 all_goals
  go_wp2
  clear c0 c1 c2 c3 c4 c5 c6 c7 cz ll
  obtain ⟨hX,hB,hP⟩:=HX.out
  clear HX
  generalize (World.setCell _ (⟨w.heap.size,7,none⟩ : Addr) _) = Z at hX hB hP ⊢
  obtain ⟨c0,c1,c2,c3,c4,c5,c6,c7,cz,ll⟩:=eit_of hB
  exact bodyPost_ret (by simp only [results,Tryz.results126,go_sem];simp [go_sem,c0,c1,c2,c3,c4,c5,c6,c7]) rfl ⟨_,F',rfl,hX,hP⟩
theorem drp1_AR (s:Se) (h:Hn) (N:Nat) (B1 B2:Nat) (w:World) (hpk:s.p.ok) (hq0:0 ≤ h.i) (hq1:h.i < 4611686018427387904) (k1:SBox B1 s w) (k2:w.heap[B2]? = some (.cells #[.int .i64 h.i,.int .i64 h.g,.int .i64 h.t] 107 (0,0)))  :
  AR (gbT s.p s.th h N) (fun j => j = B1 ∨ j = B2) (.func (.func 126) #[] #[.pointer (some ⟨B1,0,none⟩),.pointer (some ⟨B2,0,none⟩)]) w:=by
 refine ⟨_,_,rfl,enters_of Tryz.func126 (by kernel_rfl) rfl,fun w' ha => ?_⟩
 exact (drp1_PT s h N B1 B2 w' hpk hq0 hq1 ((ha B1 (.inl rfl)).trans k1) ((ha B2 (.inr rfl)).trans k2)).mono fun _ _ h => h.mono fun j h => h.elim
theorem drop_arg (s:Se) (x:BitVec 64) (w:World) (hr:∀ W,Calls Tryz.prog 43 #[seV s] W (Ret (.bool false) W)):Calls Tryz.prog 51 #[seV s,.int .u64 (U x)] w (RetP (PT kR (.done ⟨1,0#64⟩)) noF w):=by
 replace hr:=Lib.hid hr
 go_enter Tryz.func51,Tryz.ntmps51
 go_wp2_with (go_at_call 43;refine Hid.out ?_)
 refine Lib.hid ?_
 have ⟨hE,hb0,hb1,hW⟩:=al2 w (.cells #[.int .i64 s.p.n,.int .i64 s.p.t,.int .i64 s.p.r,.int .i64 s.p.d,.int .i64 s.p.b,.int .i64 s.p.g,.int .i64 s.tn,.int .i64 s.th] 82) (.cells #[.int .i64 0,.int .u64 0,.int .i64 0,.int .i64 0,.int .u64 0,.int .u64 0,.nilFunc,.pointer none] 99)
 generalize ((w.alloc (.cells #[.int .i64 s.p.n,.int .i64 s.p.t,.int .i64 s.p.r,.int .i64 s.p.d,.int .i64 s.p.b,.int .i64 s.p.g,.int .i64 s.tn,.int .i64 s.th] 82)).alloc (.cells #[.int .i64 0,.int .u64 0,.int .i64 0,.int .i64 0,.int .u64 0,.int .u64 0,.nilFunc,.pointer none] 99)) = W at hE hb0 hb1 hW ⊢
 clear hW
 refine (hr.out W).mono ?_
 rintro e w1 ⟨rfl,hx⟩
 replace hE:=ext_trans hE hx
 replace hb0:=(hx.block _ (heap_lt hb0)).trans hb0
 replace hb1:=(hx.block _ (heap_lt hb1)).trans hb1
 clear hx
 replace hE:=Lib.hid hE
 replace hb0:=Lib.hid hb0
 replace hb1:=Lib.hid hb1
 go_wp2_with (go_at_call 111;refine Hid.out ?_)
 refine Lib.hid ?_
 replace hE:=hE.out
 replace hb0:=hb0.out
 replace hb1:=hb1.out
 refine (fails_PT 1 w1).mono ?_
 rintro e w' hR
 obtain ⟨v',F',rfl,hX,hp,hbn,hsub,hnF,hbq⟩:=hR.tail (G:=noF) (w.heap.size+1) hE (heap_lt hb1) (fun h => h) (fun _ h => h.elim)
 have hbx:=hbq.trans hb1
 clear hbq hR
 clear hE hb0 hb1 hr
 obtain ⟨y0,y1,a2,fn2,rfl,HFN,HX⟩:=tlR hp hX hbx hbn hsub hnF (by omega)
 obtain ⟨c0,c1,c2,c3,c4,c5,c6,c7,cz,ll⟩:=eit_of hbx
 clear hX hbx hp hbn hsub hnF
 rcases HFN.out with rfl | ⟨g',caps',rfl⟩
 all_goals
  go_wp2
  clear c0 c1 c2 c3 c4 c5 c6 c7 cz ll
  obtain ⟨hX,hB,hP⟩:=HX.out
  clear HX
  generalize (World.setCell _ (⟨w.heap.size+1,7,none⟩ : Addr) _) = Z at hX hB hP ⊢
  obtain ⟨c0,c1,c2,c3,c4,c5,c6,c7,cz,ll⟩:=eit_of hB
  exact bodyPost_ret (by simp only [results,Tryz.results51,go_sem];simp [go_sem,c0,c1,c2,c3,c4,c5,c6,c7]) rfl ⟨_,F',rfl,hX,hP⟩
theorem drop_bad (s:Se) (x:BitVec 64) (h:Hn) (w:World) (hr:∀ W,Calls Tryz.prog 43 #[seV s] W (Ret (.bool true) W)) (hm:Hid (mineH x s.tn s.p.n = h)) (hmr:Hid (decide (isMine x s.tn s.p.n) = false)):Calls Tryz.prog 51 #[seV s,.int .u64 (U x)] w (RetP (PT kR badT) noF w):=by
 obtain ⟨i,g0,t⟩:=h
 have HM:∀ W,Calls Tryz.prog 123 #[seV s,.int .u64 (U x)] W (Ret (.tuple #[.agg #[.int .i64 i,.int .i64 g0,.int .i64 t],.bool false]) W):=fun W => cmine_any s x ⟨i,g0,t⟩ false hm hmr W
 clear hm hmr
 replace hr:=Lib.hid hr
 replace HM:=Lib.hid HM
 go_enter Tryz.func51,Tryz.ntmps51
 go_wp2_with (go_at_call 43;refine Hid.out ?_)
 refine Lib.hid ?_
 have ⟨hE,hb0,hb1,hW⟩:=al2 w (.cells #[.int .i64 s.p.n,.int .i64 s.p.t,.int .i64 s.p.r,.int .i64 s.p.d,.int .i64 s.p.b,.int .i64 s.p.g,.int .i64 s.tn,.int .i64 s.th] 82) (.cells #[.int .i64 0,.int .u64 0,.int .i64 0,.int .i64 0,.int .u64 0,.int .u64 0,.nilFunc,.pointer none] 99)
 generalize ((w.alloc (.cells #[.int .i64 s.p.n,.int .i64 s.p.t,.int .i64 s.p.r,.int .i64 s.p.d,.int .i64 s.p.b,.int .i64 s.p.g,.int .i64 s.tn,.int .i64 s.th] 82)).alloc (.cells #[.int .i64 0,.int .u64 0,.int .i64 0,.int .i64 0,.int .u64 0,.int .u64 0,.nilFunc,.pointer none] 99)) = W at hE hb0 hb1 hW ⊢
 clear hW
 refine (hr.out W).mono ?_
 rintro e w1 ⟨rfl,hx⟩
 replace hE:=ext_trans hE hx
 replace hb0:=(hx.block _ (heap_lt hb0)).trans hb0
 replace hb1:=(hx.block _ (heap_lt hb1)).trans hb1
 clear hx
 have ⟨z0,z1,z2,z3,z4,z5,z6,z7,zl⟩:=SBox.plc hb0
 replace hE:=Lib.hid hE
 replace hb0:=Lib.hid hb0
 replace hb1:=Lib.hid hb1
 go_wp2_with (go_at_call 123;refine Hid.out ?_)
 refine Lib.hid ?_
 replace hE:=hE.out
 replace hb0:=hb0.out
 replace hb1:=hb1.out
 clear z0 z1 z2 z3 z4 z5 z6 z7 zl
 refine (HM.out w1).mono ?_
 rintro e w3 ⟨rfl,hx⟩
 replace hE:=ext_trans hE hx
 replace hb0:=(hx.block _ (heap_lt hb0)).trans hb0
 replace hb1:=(hx.block _ (heap_lt hb1)).trans hb1
 clear hx
 replace hE:=Lib.hid hE
 replace hb0:=Lib.hid hb0
 replace hb1:=Lib.hid hb1
 go_wp2_with (go_at_call 124;refine Hid.out ?_)
 refine Lib.hid ?_
 replace hE:=hE.out
 replace hb0:=hb0.out
 replace hb1:=hb1.out
 have hx:Ext w3 (w3.alloc (.cells #[.int .i64 i,.int .i64 g0,.int .i64 t] 107)):=ext_alloc _ (ext_refl w3)
 have hb4:(w3.alloc (.cells #[.int .i64 i,.int .i64 g0,.int .i64 t] 107)).heap[w3.heap.size]? = some (.cells #[.int .i64 i,.int .i64 g0,.int .i64 t] 107):=heap_at _ _ _ rfl
 have hszhb4:=hE.size
 have hrbhb4:=heap_lt hb1
 generalize w3.alloc (.cells #[.int .i64 i,.int .i64 g0,.int .i64 t] 107) = w3A at hx hb4 ⊢
 replace hE:=ext_trans hE hx
 replace hb0:=(hx.block _ (heap_lt hb0)).trans hb0
 replace hb1:=(hx.block _ (heap_lt hb1)).trans hb1
 clear hx
 refine (bad_PT w3A).mono ?_
 rintro e w' hR
 obtain ⟨v',F',rfl,hX,hp,hbn,hsub,hnF,hbq⟩:=hR.tail (G:=noF) (w.heap.size+1) hE (heap_lt hb1) (fun h => h) (fun _ h => h.elim)
 have hbx:=hbq.trans hb1
 clear hbq hR
 clear hE hb0 hb1 hb4 hr HM
 obtain ⟨y0,y1,a2,fn2,rfl,HFN,HX⟩:=tlR hp hX hbx hbn hsub hnF (by omega)
 obtain ⟨c0,c1,c2,c3,c4,c5,c6,c7,cz,ll⟩:=eit_of hbx
 clear hX hbx hp hbn hsub hnF
 rcases HFN.out with rfl | ⟨g',caps',rfl⟩
 all_goals
  go_wp2
  clear c0 c1 c2 c3 c4 c5 c6 c7 cz ll
  obtain ⟨hX,hB,hP⟩:=HX.out
  clear HX
  generalize (World.setCell _ (⟨w.heap.size+1,7,none⟩ : Addr) _) = Z at hX hB hP ⊢
  obtain ⟨c0,c1,c2,c3,c4,c5,c6,c7,cz,ll⟩:=eit_of hB
  exact bodyPost_ret (by simp only [results,Tryz.results51,go_sem];simp [go_sem,c0,c1,c2,c3,c4,c5,c6,c7]) rfl ⟨_,F',rfl,hX,hP⟩
theorem drop_yes (s:Se) (x:BitVec 64) (h:Hn) (N:Nat) (w:World) (hr:∀ W,Calls Tryz.prog 43 #[seV s] W (Ret (.bool true) W)) (hm:Hid (mineH x s.tn s.p.n = h)) (hmr:Hid (decide (isMine x s.tn s.p.n) = true)) (hpk:s.p.ok) (hq0:0 ≤ h.i) (hq1:h.i < 4611686018427387904):Calls Tryz.prog 51 #[seV s,.int .u64 (U x)] w (RetP (PT kR (drpT s.p s.th h N)) noF w):=by
 obtain ⟨i,g0,t⟩:=h
 have HM:∀ W,Calls Tryz.prog 123 #[seV s,.int .u64 (U x)] W (Ret (.tuple #[.agg #[.int .i64 i,.int .i64 g0,.int .i64 t],.bool true]) W):=fun W => cmine_any s x ⟨i,g0,t⟩ true hm hmr W
 clear hm hmr
 replace hr:=Lib.hid hr
 replace HM:=Lib.hid HM
 go_enter Tryz.func51,Tryz.ntmps51
 go_wp2_with (go_at_call 43;refine Hid.out ?_)
 refine Lib.hid ?_
 have ⟨hE,hb0,hb1,hW⟩:=al2 w (.cells #[.int .i64 s.p.n,.int .i64 s.p.t,.int .i64 s.p.r,.int .i64 s.p.d,.int .i64 s.p.b,.int .i64 s.p.g,.int .i64 s.tn,.int .i64 s.th] 82) (.cells #[.int .i64 0,.int .u64 0,.int .i64 0,.int .i64 0,.int .u64 0,.int .u64 0,.nilFunc,.pointer none] 99)
 generalize ((w.alloc (.cells #[.int .i64 s.p.n,.int .i64 s.p.t,.int .i64 s.p.r,.int .i64 s.p.d,.int .i64 s.p.b,.int .i64 s.p.g,.int .i64 s.tn,.int .i64 s.th] 82)).alloc (.cells #[.int .i64 0,.int .u64 0,.int .i64 0,.int .i64 0,.int .u64 0,.int .u64 0,.nilFunc,.pointer none] 99)) = W at hE hb0 hb1 hW ⊢
 clear hW
 refine (hr.out W).mono ?_
 rintro e w1 ⟨rfl,hx⟩
 replace hE:=ext_trans hE hx
 replace hb0:=(hx.block _ (heap_lt hb0)).trans hb0
 replace hb1:=(hx.block _ (heap_lt hb1)).trans hb1
 clear hx
 have ⟨z0,z1,z2,z3,z4,z5,z6,z7,zl⟩:=SBox.plc hb0
 replace hE:=Lib.hid hE
 replace hb0:=Lib.hid hb0
 replace hb1:=Lib.hid hb1
 go_wp2_with (go_at_call 123;refine Hid.out ?_)
 refine Lib.hid ?_
 replace hE:=hE.out
 replace hb0:=hb0.out
 replace hb1:=hb1.out
 clear z0 z1 z2 z3 z4 z5 z6 z7 zl
 refine (HM.out w1).mono ?_
 rintro e w3 ⟨rfl,hx⟩
 have hsq:=Nat.lt_of_lt_of_le (heap_lt hb1) hx.size
 replace hE:=ext_trans hE hx
 replace hb0:=(hx.block _ (heap_lt hb0)).trans hb0
 replace hb1:=(hx.block _ (heap_lt hb1)).trans hb1
 clear hx
 replace hE:=Lib.hid hE
 replace hb0:=Lib.hid hb0
 replace hb1:=Lib.hid hb1
 go_upto_region 6 with (fail)
 replace hE:=hE.out
 replace hb0:=hb0.out
 replace hb1:=hb1.out
 have hx:Ext w3 (w3.alloc (.cells #[.int .i64 i,.int .i64 g0,.int .i64 t] 107)):=ext_alloc _ (ext_refl w3)
 have hb4:(w3.alloc (.cells #[.int .i64 i,.int .i64 g0,.int .i64 t] 107)).heap[w3.heap.size]? = some (.cells #[.int .i64 i,.int .i64 g0,.int .i64 t] 107):=heap_at _ _ _ rfl
 generalize w3.alloc (.cells #[.int .i64 i,.int .i64 g0,.int .i64 t] 107) = X at hx hb4 ⊢
 replace hE:=ext_trans hE hx
 replace hb0:=(hx.block _ (heap_lt hb0)).trans hb0
 replace hb1:=(hx.block _ (heap_lt hb1)).trans hb1
 clear hx
 have hszX:=hE.size
 have hrbX:=heap_lt hb1
 have hlX:=heap_lt hb4
 have ⟨z0,z1,z2,z3,z4,z5,z6,z7,zl⟩:=SBox.plc hb0
 have d3_0:=cell_at (o:=0) hb4 rfl
 have d3_1:=cell_at (o:=1) hb4 rfl
 have d3_2:=cell_at (o:=2) hb4 rfl
 have e3:=cell_lt d3_0
 replace hE:=Lib.hid hE
 replace hb0:=Lib.hid hb0
 replace hb1:=Lib.hid hb1
 replace hb4:=Lib.hid hb4
 go_wp2_with (go_at_call 125;refine Hid.out ?_)
 refine Lib.hid ?_
 replace hE:=hE.out
 replace hb0:=hb0.out
 replace hb1:=hb1.out
 replace hb4:=hb4.out
 clear z0 z1 z2 z3 z4 z5 z6 z7 zl d3_0 d3_1 d3_2 e3
 have hA:=drp1_AR s ⟨i,g0,t⟩ N w.heap.size w3.heap.size X hpk hq0 hq1 hb0 hb4
 refine (wg_any s ⟨i,g0,t⟩ (gbT s.p s.th ⟨i,g0,t⟩ N) badT (fun j => j = w.heap.size ∨ j = w3.heap.size) _ _ X ((bad_AR _).mono fun j h => h.elim) hA (fun j h => by rcases h with rfl | rfl;exact heap_lt hb0;exact heap_lt hb4)).mono ?_
 rintro e w' hR
 obtain ⟨v',F',rfl,hX,hp,hbn,hsub,hnF,hbq⟩:=hR.tail (G:=noF) (w.heap.size+1) hE (heap_lt hb1) (fun h => by rcases h with h | h;omega;omega) (fun j h => by rcases h with h | h;exact .inr (by omega);exact .inr (by omega))
 have hbx:=hbq.trans hb1
 clear hbq hR
 clear hE hb0 hb1 hb4 hA
 obtain ⟨y0,y1,a2,fn2,rfl,HFN,HX⟩:=tlR hp hX hbx hbn hsub hnF (by omega)
 obtain ⟨c0,c1,c2,c3,c4,c5,c6,c7,cz,ll⟩:=eit_of hbx
 clear hX hbx hp hbn hsub hnF
 rcases HFN.out with rfl | ⟨g',caps',rfl⟩
 all_goals
  go_wp2
  clear c0 c1 c2 c3 c4 c5 c6 c7 cz ll
  obtain ⟨hX,hB,hP⟩:=HX.out
  clear HX
  generalize (World.setCell _ (⟨w.heap.size+1,7,none⟩ : Addr) _) = Z at hX hB hP ⊢
  obtain ⟨c0,c1,c2,c3,c4,c5,c6,c7,cz,ll⟩:=eit_of hB
  exact bodyPost_ret (by simp only [results,Tryz.results51,go_sem];simp [go_sem,c0,c1,c2,c3,c4,c5,c6,c7]) rfl ⟨_,F',rfl,hX,hP⟩
def dropT (s:Se) (x:BitVec 64) (N:Nat):Tr Rz:=if s.ok then (if isMine x s.tn s.p.n then drpT s.p s.th (hnN x) N else badT) else .done ⟨1,0#64⟩
theorem drop_PT (s:Se) (x:BitVec 64) (N:Nat) (w:World):Calls Tryz.prog 51 #[seV s,.int .u64 (U x)] w (RetP (PT kR (dropT s x N)) noF w):=by
 unfold dropT
 by_cases h1:s.ok
 ·rw [if_pos h1]
  by_cases h3:isMine x s.tn s.p.n
  ·rw [if_pos h3]
   have h4:=hnN_ok x
   unfold Hn.ok at h4
   exact drop_yes s x (hnN x) N w (fun W => seat_yes s h1 W) (Lib.hid (mineH_yes x _ _ h3)) (Lib.hid (decide_eq_true h3)) h1.1 h4.1 (by omega)
  ·rw [if_neg h3]
   exact drop_bad s x _ w (fun W => seat_yes s h1 W) (Lib.hid rfl) (Lib.hid (decide_eq_false h3))
 ·rw [if_neg h1]
  exact drop_arg s x w (fun W => seat_no s h1 W)
end Go.Proofs.YthjklbonebnekaaGreat

