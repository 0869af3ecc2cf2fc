/-
  What the call of look comes to. Conditions: those of each theorem.
-/
import Derived.Test.YthjklbonebnekaaGreatGbr
set_option maxRecDepth 8000
set_option maxHeartbeats 4000000
namespace Go.Proofs.YthjklbonebnekaaGreat
open Go Go.RowKit
def lookT (s:Se) (x:BitVec 64) (fd:Int) (d:Int → Tr (BitVec 64)):Tr Rz:=if s.ok ∧ 0 ≤ fd ∧ fd ≤ 2 then (if isMine x s.tn s.p.n then lkT s.p s.th (hnN x) (d (s.p.fdF (hnN x).i fd)) else badT) else .done ⟨1,0#64⟩
theorem look_arg (s:Se) (x:BitVec 64) (fd:Int) (g:FuncId) (caps:Array Value) (w:World) (r1 r2:Bool) (hr:∀ W,Calls Tryz.prog 43 #[seV s] W (Ret (.bool r1) W)) (h2:upF fd 2 = r2) (hn:¬ (r1 = true ∧ r2 = true)) :
  Calls Tryz.prog 116 #[seV s,.int .u64 (U x),.int .i64 fd,.func (.func g) #[] caps] w (RetP (PT kR (.done ⟨1,0#64⟩)) noF w):=by
 cases r1 with
 | true =>
  obtain rfl:r2 = false:=by cases r2 with | true => exact absurd ⟨rfl,rfl⟩ hn | false => rfl
  clear hn
  replace hr:=Lib.hid hr
  go_enter Tryz.func116,Tryz.ntmps116
  go_wp2_with (go_at_call 43;refine Hid.out ?_)
  refine Lib.hid ?_
  have ⟨hE,hb0,hb1,hb2,hb3,hW⟩:=al4 w (.cells #[.int .i64 s.p.n,.int .i64 s.p.t,.int .i64 s.p.r,.int .i64 s.p.d,.int .i64 s.p.b,.int .i64 s.p.g,.int .i64 s.tn,.int .i64 s.th] 82) (.cells #[.int .i64 fd] 3) (.cells #[.func (.func g) #[] caps] 205) (.cells #[.int .i64 0,.int .u64 0,.int .i64 0,.int .i64 0,.int .u64 0,.int .u64 0,.nilFunc,.pointer none] 99)
  generalize ((((w.alloc (.cells #[.int .i64 s.p.n,.int .i64 s.p.t,.int .i64 s.p.r,.int .i64 s.p.d,.int .i64 s.p.b,.int .i64 s.p.g,.int .i64 s.tn,.int .i64 s.th] 82)).alloc (.cells #[.int .i64 fd] 3)).alloc (.cells #[.func (.func g) #[] caps] 205)).alloc (.cells #[.int .i64 0,.int .u64 0,.int .i64 0,.int .i64 0,.int .u64 0,.int .u64 0,.nilFunc,.pointer none] 99)) = W at hE hb0 hb1 hb2 hb3 hW ⊢
  clear hW
  refine (hr.out W).mono ?_
  rintro e w1 ⟨rfl,hx⟩
  replace hE:=ext_trans hE hx
  replace hb0:=(hx.block _ (heap_lt hb0)).trans hb0
  replace hb1:=(hx.block _ (heap_lt hb1)).trans hb1
  replace hb2:=(hx.block _ (heap_lt hb2)).trans hb2
  replace hb3:=(hx.block _ (heap_lt hb3)).trans hb3
  clear hx
  have d1_0:=cell_at (o:=0) hb1 rfl
  have e1:=cell_lt d1_0
  replace hE:=Lib.hid hE
  replace hb0:=Lib.hid hb0
  replace hb1:=Lib.hid hb1
  replace hb2:=Lib.hid hb2
  replace hb3:=Lib.hid hb3
  go_wp2_with (go_at_call 108;refine (cupTo_any fd 2 _).mono ?_;rintro e w2 ⟨rfl,hx⟩;rw [h2];refine Hid.out ?_)
  refine Lib.hid ?_
  replace hE:=hE.out
  replace hb0:=hb0.out
  replace hb1:=hb1.out
  replace hb2:=hb2.out
  replace hb3:=hb3.out
  clear d1_0 e1
  replace hE:=ext_trans hE hx
  replace hb0:=(hx.block _ (heap_lt hb0)).trans hb0
  replace hb1:=(hx.block _ (heap_lt hb1)).trans hb1
  replace hb2:=(hx.block _ (heap_lt hb2)).trans hb2
  replace hb3:=(hx.block _ (heap_lt hb3)).trans hb3
  clear hx
  replace hE:=Lib.hid hE
  replace hb0:=Lib.hid hb0
  replace hb1:=Lib.hid hb1
  replace hb2:=Lib.hid hb2
  replace hb3:=Lib.hid hb3
  go_wp2_with (go_at_call 111;refine Hid.out ?_)
  refine Lib.hid ?_
  replace hE:=hE.out
  replace hb0:=hb0.out
  replace hb1:=hb1.out
  replace hb2:=hb2.out
  replace hb3:=hb3.out
  refine (fails_PT 1 w2).mono ?_
  rintro e w' hR
  obtain ⟨v',F',rfl,hX,hp,hbn,hsub,hnF,hbq⟩:=hR.tail (G:=noF) (w.heap.size+1+1+1) hE (heap_lt hb3) (fun h => h) (fun _ h => h.elim)
  have hbx:=hbq.trans hb3
  clear hbq hR
  clear hE hb0 hb1 hb2 hb3 hr
  obtain ⟨y0,y1,a2,fn2,rfl,HFN,HX⟩:=tlR hp hX hbx hbn hsub hnF (by omega)
  obtain ⟨c0,c1,c2,c3,c4,c5,c6,c7,cz,ll⟩:=eit_of hbx
  clear hX hbx hp hbn hsub hnF
  rcases HFN.out with rfl | ⟨g',caps',rfl⟩
  all_goals
   go_wp2
   clear c0 c1 c2 c3 c4 c5 c6 c7 cz ll
   obtain ⟨hX,hB,hP⟩:=HX.out
   clear HX
   generalize (World.setCell _ (⟨w.heap.size+1+1+1,7,none⟩ : Addr) _) = Z at hX hB hP ⊢
   obtain ⟨c0,c1,c2,c3,c4,c5,c6,c7,cz,ll⟩:=eit_of hB
   exact bodyPost_ret (by simp only [results,Tryz.results116,go_sem];simp [go_sem,c0,c1,c2,c3,c4,c5,c6,c7]) rfl ⟨_,F',rfl,hX,hP⟩
 | false =>
  clear hn
  replace hr:=Lib.hid hr
  go_enter Tryz.func116,Tryz.ntmps116
  go_wp2_with (go_at_call 43;refine Hid.out ?_)
  refine Lib.hid ?_
  have ⟨hE,hb0,hb1,hb2,hb3,hW⟩:=al4 w (.cells #[.int .i64 s.p.n,.int .i64 s.p.t,.int .i64 s.p.r,.int .i64 s.p.d,.int .i64 s.p.b,.int .i64 s.p.g,.int .i64 s.tn,.int .i64 s.th] 82) (.cells #[.int .i64 fd] 3) (.cells #[.func (.func g) #[] caps] 205) (.cells #[.int .i64 0,.int .u64 0,.int .i64 0,.int .i64 0,.int .u64 0,.int .u64 0,.nilFunc,.pointer none] 99)
  generalize ((((w.alloc (.cells #[.int .i64 s.p.n,.int .i64 s.p.t,.int .i64 s.p.r,.int .i64 s.p.d,.int .i64 s.p.b,.int .i64 s.p.g,.int .i64 s.tn,.int .i64 s.th] 82)).alloc (.cells #[.int .i64 fd] 3)).alloc (.cells #[.func (.func g) #[] caps] 205)).alloc (.cells #[.int .i64 0,.int .u64 0,.int .i64 0,.int .i64 0,.int .u64 0,.int .u64 0,.nilFunc,.pointer none] 99)) = W at hE hb0 hb1 hb2 hb3 hW ⊢
  clear hW
  refine (hr.out W).mono ?_
  rintro e w1 ⟨rfl,hx⟩
  replace hE:=ext_trans hE hx
  replace hb0:=(hx.block _ (heap_lt hb0)).trans hb0
  replace hb1:=(hx.block _ (heap_lt hb1)).trans hb1
  replace hb2:=(hx.block _ (heap_lt hb2)).trans hb2
  replace hb3:=(hx.block _ (heap_lt hb3)).trans hb3
  clear hx
  replace hE:=Lib.hid hE
  replace hb0:=Lib.hid hb0
  replace hb1:=Lib.hid hb1
  replace hb2:=Lib.hid hb2
  replace hb3:=Lib.hid hb3
  go_wp2_with (go_at_call 111;refine Hid.out ?_)
  refine Lib.hid ?_
  replace hE:=hE.out
  replace hb0:=hb0.out
  replace hb1:=hb1.out
  replace hb2:=hb2.out
  replace hb3:=hb3.out
  refine (fails_PT 1 w1).mono ?_
  rintro e w' hR
  obtain ⟨v',F',rfl,hX,hp,hbn,hsub,hnF,hbq⟩:=hR.tail (G:=noF) (w.heap.size+1+1+1) hE (heap_lt hb3) (fun h => h) (fun _ h => h.elim)
  have hbx:=hbq.trans hb3
  clear hbq hR
  clear hE hb0 hb1 hb2 hb3 hr
  obtain ⟨y0,y1,a2,fn2,rfl,HFN,HX⟩:=tlR hp hX hbx hbn hsub hnF (by omega)
  obtain ⟨c0,c1,c2,c3,c4,c5,c6,c7,cz,ll⟩:=eit_of hbx
  clear hX hbx hp hbn hsub hnF
  rcases HFN.out with rfl | ⟨g',caps',rfl⟩
  all_goals
   go_wp2
   clear c0 c1 c2 c3 c4 c5 c6 c7 cz ll
   obtain ⟨hX,hB,hP⟩:=HX.out
   clear HX
   generalize (World.setCell _ (⟨w.heap.size+1+1+1,7,none⟩ : Addr) _) = Z at hX hB hP ⊢
   obtain ⟨c0,c1,c2,c3,c4,c5,c6,c7,cz,ll⟩:=eit_of hB
   exact bodyPost_ret (by simp only [results,Tryz.results116,go_sem];simp [go_sem,c0,c1,c2,c3,c4,c5,c6,c7]) rfl ⟨_,F',rfl,hX,hP⟩
theorem look_bad (s:Se) (x:BitVec 64) (h:Hn) (fd:Int) (g:FuncId) (caps:Array Value) (w:World) (hr:∀ W,Calls Tryz.prog 43 #[seV s] W (Ret (.bool true) W)) (hfd:0 ≤ fd ∧ fd ≤ 2) (hm:Hid (mineH x s.tn s.p.n = h)) (hmr:Hid (decide (isMine x s.tn s.p.n) = false)) :
  Calls Tryz.prog 116 #[seV s,.int .u64 (U x),.int .i64 fd,.func (.func g) #[] caps] w (RetP (PT kR badT) noF w):=by
 obtain ⟨i,g0,t⟩:=h
 have HM:∀ W,Calls Tryz.prog 123 #[seV s,.int .u64 (U x)] W (Ret (.tuple #[.agg #[.int .i64 i,.int .i64 g0,.int .i64 t],.bool false]) W):=fun W => cmine_any s x ⟨i,g0,t⟩ false hm hmr W
 have h2:upF fd 2 = true:=upF_yes hfd.1 hfd.2
 clear hm hmr hfd
 replace hr:=Lib.hid hr
 replace HM:=Lib.hid HM
 go_enter Tryz.func116,Tryz.ntmps116
 go_wp2_with (go_at_call 43;refine Hid.out ?_)
 refine Lib.hid ?_
 have ⟨hE,hb0,hb1,hb2,hb3,hW⟩:=al4 w (.cells #[.int .i64 s.p.n,.int .i64 s.p.t,.int .i64 s.p.r,.int .i64 s.p.d,.int .i64 s.p.b,.int .i64 s.p.g,.int .i64 s.tn,.int .i64 s.th] 82) (.cells #[.int .i64 fd] 3) (.cells #[.func (.func g) #[] caps] 205) (.cells #[.int .i64 0,.int .u64 0,.int .i64 0,.int .i64 0,.int .u64 0,.int .u64 0,.nilFunc,.pointer none] 99)
 generalize ((((w.alloc (.cells #[.int .i64 s.p.n,.int .i64 s.p.t,.int .i64 s.p.r,.int .i64 s.p.d,.int .i64 s.p.b,.int .i64 s.p.g,.int .i64 s.tn,.int .i64 s.th] 82)).alloc (.cells #[.int .i64 fd] 3)).alloc (.cells #[.func (.func g) #[] caps] 205)).alloc (.cells #[.int .i64 0,.int .u64 0,.int .i64 0,.int .i64 0,.int .u64 0,.int .u64 0,.nilFunc,.pointer none] 99)) = W at hE hb0 hb1 hb2 hb3 hW ⊢
 clear hW
 refine (hr.out W).mono ?_
 rintro e w1 ⟨rfl,hx⟩
 replace hE:=ext_trans hE hx
 replace hb0:=(hx.block _ (heap_lt hb0)).trans hb0
 replace hb1:=(hx.block _ (heap_lt hb1)).trans hb1
 replace hb2:=(hx.block _ (heap_lt hb2)).trans hb2
 replace hb3:=(hx.block _ (heap_lt hb3)).trans hb3
 clear hx
 have d1_0:=cell_at (o:=0) hb1 rfl
 have e1:=cell_lt d1_0
 replace hE:=Lib.hid hE
 replace hb0:=Lib.hid hb0
 replace hb1:=Lib.hid hb1
 replace hb2:=Lib.hid hb2
 replace hb3:=Lib.hid hb3
 go_wp2_with (go_at_call 108;refine (cupTo_any fd 2 _).mono ?_;rintro e w2 ⟨rfl,hx⟩;rw [h2];refine Hid.out ?_)
 refine Lib.hid ?_
 replace hE:=hE.out
 replace hb0:=hb0.out
 replace hb1:=hb1.out
 replace hb2:=hb2.out
 replace hb3:=hb3.out
 clear d1_0 e1
 replace hE:=ext_trans hE hx
 replace hb0:=(hx.block _ (heap_lt hb0)).trans hb0
 replace hb1:=(hx.block _ (heap_lt hb1)).trans hb1
 replace hb2:=(hx.block _ (heap_lt hb2)).trans hb2
 replace hb3:=(hx.block _ (heap_lt hb3)).trans hb3
 clear hx
 have ⟨z0,z1,z2,z3,z4,z5,z6,z7,zl⟩:=SBox.plc hb0
 replace hE:=Lib.hid hE
 replace hb0:=Lib.hid hb0
 replace hb1:=Lib.hid hb1
 replace hb2:=Lib.hid hb2
 replace hb3:=Lib.hid hb3
 go_wp2_with (go_at_call 123;refine Hid.out ?_)
 refine Lib.hid ?_
 replace hE:=hE.out
 replace hb0:=hb0.out
 replace hb1:=hb1.out
 replace hb2:=hb2.out
 replace hb3:=hb3.out
 clear z0 z1 z2 z3 z4 z5 z6 z7 zl
 refine (HM.out w2).mono ?_
 rintro e w3 ⟨rfl,hx⟩
 replace hE:=ext_trans hE hx
 replace hb0:=(hx.block _ (heap_lt hb0)).trans hb0
 replace hb1:=(hx.block _ (heap_lt hb1)).trans hb1
 replace hb2:=(hx.block _ (heap_lt hb2)).trans hb2
 replace hb3:=(hx.block _ (heap_lt hb3)).trans hb3
 clear hx
 have hrb:=heap_lt hb3
 have hszw:=hE.size
 replace hE:=Lib.hid hE
 replace hb0:=Lib.hid hb0
 replace hb1:=Lib.hid hb1
 replace hb2:=Lib.hid hb2
 replace hb3:=Lib.hid hb3
 go_wp2_with (go_at_call 124;refine Hid.out ?_)
 refine Lib.hid ?_
 replace hE:=hE.out
 replace hb0:=hb0.out
 replace hb1:=hb1.out
 replace hb2:=hb2.out
 replace hb3:=hb3.out
 have hx:Ext w3 (w3.alloc (.cells #[.int .i64 i,.int .i64 g0,.int .i64 t] 107)):=ext_alloc _ (ext_refl w3)
 have hb4:(w3.alloc (.cells #[.int .i64 i,.int .i64 g0,.int .i64 t] 107)).heap[w3.heap.size]? = some (.cells #[.int .i64 i,.int .i64 g0,.int .i64 t] 107):=heap_at _ _ _ rfl
 have hszhb4:=hE.size
 have hrbhb4:=heap_lt hb3
 generalize w3.alloc (.cells #[.int .i64 i,.int .i64 g0,.int .i64 t] 107) = w3A at hx hb4 ⊢
 replace hE:=ext_trans hE hx
 replace hb0:=(hx.block _ (heap_lt hb0)).trans hb0
 replace hb1:=(hx.block _ (heap_lt hb1)).trans hb1
 replace hb2:=(hx.block _ (heap_lt hb2)).trans hb2
 replace hb3:=(hx.block _ (heap_lt hb3)).trans hb3
 clear hx
 refine (bad_PT w3A).mono ?_
 rintro e w' hR
 obtain ⟨v',F',rfl,hX,hp,hbn,hsub,hnF,hbq⟩:=hR.tail (G:=noF) (w.heap.size+1+1+1) hE (heap_lt hb3) (fun h => h) (fun _ h => h.elim)
 have hbx:=hbq.trans hb3
 clear hbq hR
 clear hE hb0 hb1 hb2 hb3 hb4 hr HM
 obtain ⟨y0,y1,a2,fn2,rfl,HFN,HX⟩:=tlR hp hX hbx hbn hsub hnF (by omega)
 obtain ⟨c0,c1,c2,c3,c4,c5,c6,c7,cz,ll⟩:=eit_of hbx
 clear hX hbx hp hbn hsub hnF
 rcases HFN.out with rfl | ⟨g',caps',rfl⟩
 all_goals
  go_wp2
  clear c0 c1 c2 c3 c4 c5 c6 c7 cz ll
  obtain ⟨hX,hB,hP⟩:=HX.out
  clear HX
  generalize (World.setCell _ (⟨w.heap.size+1+1+1,7,none⟩ : Addr) _) = Z at hX hB hP ⊢
  obtain ⟨c0,c1,c2,c3,c4,c5,c6,c7,cz,ll⟩:=eit_of hB
  exact bodyPost_ret (by simp only [results,Tryz.results116,go_sem];simp [go_sem,c0,c1,c2,c3,c4,c5,c6,c7]) rfl ⟨_,F',rfl,hX,hP⟩
theorem look_yes (s:Se) (x:BitVec 64) (h:Hn) (fd:Int) (d:Int → Tr (BitVec 64)) (F:Nat → Prop) (g:FuncId) (caps:Array Value) (w:World) (hr:∀ W,Calls Tryz.prog 43 #[seV s] W (Ret (.bool true) W)) (hfd:0 ≤ fd ∧ fd ≤ 2) (hm:Hid (mineH x s.tn s.p.n = h)) (hmr:Hid (decide (isMine x s.tn s.p.n) = true)) (hh:0 ≤ h.i ∧ h.i < 4611686018427387904) (hD:CT kI kU d F (.func (.func g) #[] caps) w) (hF:Bnd F w) :
  Calls Tryz.prog 116 #[seV s,.int .u64 (U x),.int .i64 fd,.func (.func g) #[] caps] w (RetP (PT kR (lkT s.p s.th h (d (s.p.fdF h.i fd)))) F w):=by
 obtain ⟨i,g0,t⟩:=h
 have HM:∀ W,Calls Tryz.prog 123 #[seV s,.int .u64 (U x)] W (Ret (.tuple #[.agg #[.int .i64 i,.int .i64 g0,.int .i64 t],.bool true]) W):=fun W => cmine_any s x ⟨i,g0,t⟩ true hm hmr W
 have h2:upF fd 2 = true:=upF_yes hfd.1 hfd.2
 clear hm hmr hfd
 have HD:=Lib.hid hD
 have HH:=Lib.hid hh
 clear hD hh
 replace hr:=Lib.hid hr
 replace HM:=Lib.hid HM
 go_enter Tryz.func116,Tryz.ntmps116
 go_wp2_with (go_at_call 43;refine Hid.out ?_)
 refine Lib.hid ?_
 have ⟨hE,hb0,hb1,hb2,hb3,hW⟩:=al4 w (.cells #[.int .i64 s.p.n,.int .i64 s.p.t,.int .i64 s.p.r,.int .i64 s.p.d,.int .i64 s.p.b,.int .i64 s.p.g,.int .i64 s.tn,.int .i64 s.th] 82) (.cells #[.int .i64 fd] 3) (.cells #[.func (.func g) #[] caps] 205) (.cells #[.int .i64 0,.int .u64 0,.int .i64 0,.int .i64 0,.int .u64 0,.int .u64 0,.nilFunc,.pointer none] 99)
 generalize ((((w.alloc (.cells #[.int .i64 s.p.n,.int .i64 s.p.t,.int .i64 s.p.r,.int .i64 s.p.d,.int .i64 s.p.b,.int .i64 s.p.g,.int .i64 s.tn,.int .i64 s.th] 82)).alloc (.cells #[.int .i64 fd] 3)).alloc (.cells #[.func (.func g) #[] caps] 205)).alloc (.cells #[.int .i64 0,.int .u64 0,.int .i64 0,.int .i64 0,.int .u64 0,.int .u64 0,.nilFunc,.pointer none] 99)) = W at hE hb0 hb1 hb2 hb3 hW ⊢
 clear hW
 refine (hr.out W).mono ?_
 rintro e w1 ⟨rfl,hx⟩
 replace hE:=ext_trans hE hx
 replace hb0:=(hx.block _ (heap_lt hb0)).trans hb0
 replace hb1:=(hx.block _ (heap_lt hb1)).trans hb1
 replace hb2:=(hx.block _ (heap_lt hb2)).trans hb2
 replace hb3:=(hx.block _ (heap_lt hb3)).trans hb3
 clear hx
 have d1_0:=cell_at (o:=0) hb1 rfl
 have e1:=cell_lt d1_0
 replace hE:=Lib.hid hE
 replace hb0:=Lib.hid hb0
 replace hb1:=Lib.hid hb1
 replace hb2:=Lib.hid hb2
 replace hb3:=Lib.hid hb3
 go_wp2_with (go_at_call 108;refine (cupTo_any fd 2 _).mono ?_;rintro e w2 ⟨rfl,hx⟩;rw [h2];refine Hid.out ?_)
 refine Lib.hid ?_
 replace hE:=hE.out
 replace hb0:=hb0.out
 replace hb1:=hb1.out
 replace hb2:=hb2.out
 replace hb3:=hb3.out
 clear d1_0 e1
 replace hE:=ext_trans hE hx
 replace hb0:=(hx.block _ (heap_lt hb0)).trans hb0
 replace hb1:=(hx.block _ (heap_lt hb1)).trans hb1
 replace hb2:=(hx.block _ (heap_lt hb2)).trans hb2
 replace hb3:=(hx.block _ (heap_lt hb3)).trans hb3
 clear hx
 have ⟨z0,z1,z2,z3,z4,z5,z6,z7,zl⟩:=SBox.plc hb0
 replace hE:=Lib.hid hE
 replace hb0:=Lib.hid hb0
 replace hb1:=Lib.hid hb1
 replace hb2:=Lib.hid hb2
 replace hb3:=Lib.hid hb3
 go_wp2_with (go_at_call 123;refine Hid.out ?_)
 refine Lib.hid ?_
 replace hE:=hE.out
 replace hb0:=hb0.out
 replace hb1:=hb1.out
 replace hb2:=hb2.out
 replace hb3:=hb3.out
 clear z0 z1 z2 z3 z4 z5 z6 z7 zl
 refine (HM.out w2).mono ?_
 rintro e w3 ⟨rfl,hx⟩
 replace hE:=ext_trans hE hx
 replace hb0:=(hx.block _ (heap_lt hb0)).trans hb0
 replace hb1:=(hx.block _ (heap_lt hb1)).trans hb1
 replace hb2:=(hx.block _ (heap_lt hb2)).trans hb2
 replace hb3:=(hx.block _ (heap_lt hb3)).trans hb3
 clear hx
 have hrb:=heap_lt hb3
 have hszw:=hE.size
 replace hE:=Lib.hid hE
 replace hb0:=Lib.hid hb0
 replace hb1:=Lib.hid hb1
 replace hb2:=Lib.hid hb2
 replace hb3:=Lib.hid hb3
 go_upto_region 4 with (fail)
 replace hE:=hE.out
 replace hb0:=hb0.out
 replace hb1:=hb1.out
 replace hb2:=hb2.out
 replace hb3:=hb3.out
 have hx:Ext w3 (w3.alloc (.cells #[.int .i64 i,.int .i64 g0,.int .i64 t] 107)):=ext_alloc _ (ext_refl w3)
 have hb4:(w3.alloc (.cells #[.int .i64 i,.int .i64 g0,.int .i64 t] 107)).heap[w3.heap.size]? = some (.cells #[.int .i64 i,.int .i64 g0,.int .i64 t] 107):=heap_at _ _ _ rfl
 generalize w3.alloc (.cells #[.int .i64 i,.int .i64 g0,.int .i64 t] 107) = X at hx hb4 ⊢
 replace hE:=ext_trans hE hx
 replace hb0:=(hx.block _ (heap_lt hb0)).trans hb0
 replace hb1:=(hx.block _ (heap_lt hb1)).trans hb1
 replace hb2:=(hx.block _ (heap_lt hb2)).trans hb2
 replace hb3:=(hx.block _ (heap_lt hb3)).trans hb3
 clear hx
 have hszX:=hE.size
 have hrbX:=heap_lt hb3
 replace hE:=Lib.hid hE
 replace hb0:=Lib.hid hb0
 replace hb1:=Lib.hid hb1
 replace hb2:=Lib.hid hb2
 replace hb3:=Lib.hid hb3
 replace hb4:=Lib.hid hb4
 go_upto_region 7 with (fail)
 replace hE:=hE.out
 replace hb0:=hb0.out
 replace hb1:=hb1.out
 replace hb2:=hb2.out
 replace hb3:=hb3.out
 replace hb4:=hb4.out
 have hx:Ext X (X.alloc (.cells #[.func (.func 181) #[] #[.pointer (some ⟨w.heap.size+1+1,0,none⟩),.pointer (some ⟨w.heap.size,0,none⟩),.pointer (some ⟨w3.heap.size,0,none⟩),.pointer (some ⟨w.heap.size+1,0,none⟩)]] 212)):=ext_alloc _ (ext_refl X)
 have hb5:(X.alloc (.cells #[.func (.func 181) #[] #[.pointer (some ⟨w.heap.size+1+1,0,none⟩),.pointer (some ⟨w.heap.size,0,none⟩),.pointer (some ⟨w3.heap.size,0,none⟩),.pointer (some ⟨w.heap.size+1,0,none⟩)]] 212)).heap[X.heap.size]? = some (.cells #[.func (.func 181) #[] #[.pointer (some ⟨w.heap.size+1+1,0,none⟩),.pointer (some ⟨w.heap.size,0,none⟩),.pointer (some ⟨w3.heap.size,0,none⟩),.pointer (some ⟨w.heap.size+1,0,none⟩)]] 212):=heap_at _ _ _ rfl
 generalize X.alloc (.cells #[.func (.func 181) #[] #[.pointer (some ⟨w.heap.size+1+1,0,none⟩),.pointer (some ⟨w.heap.size,0,none⟩),.pointer (some ⟨w3.heap.size,0,none⟩),.pointer (some ⟨w.heap.size+1,0,none⟩)]] 212) = Y at hx hb5 ⊢
 replace hE:=ext_trans hE hx
 replace hb0:=(hx.block _ (heap_lt hb0)).trans hb0
 replace hb1:=(hx.block _ (heap_lt hb1)).trans hb1
 replace hb2:=(hx.block _ (heap_lt hb2)).trans hb2
 replace hb3:=(hx.block _ (heap_lt hb3)).trans hb3
 replace hb4:=(hx.block _ (heap_lt hb4)).trans hb4
 clear hx
 have hszY:=hE.size
 have hrbY:=heap_lt hb3
 replace hE:=Lib.hid hE
 replace hb0:=Lib.hid hb0
 replace hb1:=Lib.hid hb1
 replace hb2:=Lib.hid hb2
 replace hb3:=Lib.hid hb3
 replace hb4:=Lib.hid hb4
 replace hb5:=Lib.hid hb5
 go_upto_region 8 with (fail)
 replace hE:=hE.out
 replace hb0:=hb0.out
 replace hb1:=hb1.out
 replace hb2:=hb2.out
 replace hb3:=hb3.out
 replace hb4:=hb4.out
 replace hb5:=hb5.out
 have hx:Ext Y (Y.alloc (.cells #[.func (.func 185) #[] #[.pointer (some ⟨w.heap.size,0,none⟩),.pointer (some ⟨w3.heap.size,0,none⟩),.pointer (some ⟨X.heap.size,0,none⟩)]] 259)):=ext_alloc _ (ext_refl Y)
 have hb6:(Y.alloc (.cells #[.func (.func 185) #[] #[.pointer (some ⟨w.heap.size,0,none⟩),.pointer (some ⟨w3.heap.size,0,none⟩),.pointer (some ⟨X.heap.size,0,none⟩)]] 259)).heap[Y.heap.size]? = some (.cells #[.func (.func 185) #[] #[.pointer (some ⟨w.heap.size,0,none⟩),.pointer (some ⟨w3.heap.size,0,none⟩),.pointer (some ⟨X.heap.size,0,none⟩)]] 259):=heap_at _ _ _ rfl
 generalize Y.alloc (.cells #[.func (.func 185) #[] #[.pointer (some ⟨w.heap.size,0,none⟩),.pointer (some ⟨w3.heap.size,0,none⟩),.pointer (some ⟨X.heap.size,0,none⟩)]] 259) = Z at hx hb6 ⊢
 replace hE:=ext_trans hE hx
 replace hb0:=(hx.block _ (heap_lt hb0)).trans hb0
 replace hb1:=(hx.block _ (heap_lt hb1)).trans hb1
 replace hb2:=(hx.block _ (heap_lt hb2)).trans hb2
 replace hb3:=(hx.block _ (heap_lt hb3)).trans hb3
 replace hb4:=(hx.block _ (heap_lt hb4)).trans hb4
 replace hb5:=(hx.block _ (heap_lt hb5)).trans hb5
 clear hx
 have hszZ:=hE.size
 have hrbZ:=heap_lt hb3
 have ⟨z0,z1,z2,z3,z4,z5,z6,z7,zl⟩:=SBox.plc hb0
 have d4_0:=cell_at (o:=0) hb4 rfl
 have d4_1:=cell_at (o:=1) hb4 rfl
 have d4_2:=cell_at (o:=2) hb4 rfl
 have e4:=cell_lt d4_0
 replace hE:=Lib.hid hE
 replace hb0:=Lib.hid hb0
 replace hb1:=Lib.hid hb1
 replace hb2:=Lib.hid hb2
 replace hb3:=Lib.hid hb3
 replace hb4:=Lib.hid hb4
 replace hb5:=Lib.hid hb5
 replace hb6:=Lib.hid hb6
 go_wp2_with (go_at_call 125;refine Hid.out ?_)
 refine Lib.hid ?_
 replace hE:=hE.out
 replace hb0:=hb0.out
 replace hb1:=hb1.out
 replace hb2:=hb2.out
 replace hb3:=hb3.out
 replace hb4:=hb4.out
 replace hb5:=hb5.out
 replace hb6:=hb6.out
 clear z0 z1 z2 z3 z4 z5 z6 z7 zl d4_0 d4_1 d4_2 e4
 have hDz:=HD.out.agr (Agr.of_ext hE hF)
 have hFz:=hF.ext hE.size
 have l0:=heap_lt hb0
 have l1:=heap_lt hb1
 have l2:=heap_lt hb2
 have l4:=heap_lt hb4
 have l5:=heap_lt hb5
 have l6:=heap_lt hb6
 have hA1:=tch_AR s ⟨i,g0,t⟩ fd d F g caps (w.heap.size+1+1) w.heap.size w3.heap.size (w.heap.size+1) Z hDz hb2 hb0 hb4 hb1 hFz
 have hA2:=agn_CT s ⟨i,g0,t⟩ (tchT s.p s.th (d (s.p.fdF i fd))) (fun j => F j ∨ j = w.heap.size+1+1 ∨ j = w.heap.size ∨ j = w3.heap.size ∨ j = w.heap.size+1) _ _ w.heap.size w3.heap.size X.heap.size Z hA1 hb0 hb4 hb5 (fun j h => by rcases h with h | rfl | rfl | rfl | rfl;exact hFz j h;exact l2;exact l0;exact l4;exact l1)
 have hA3:=hldg_AR s ⟨i,g0,t⟩ (tchT s.p s.th (d (s.p.fdF i fd))) (fun j => (F j ∨ j = w.heap.size+1+1 ∨ j = w.heap.size ∨ j = w3.heap.size ∨ j = w.heap.size+1) ∨ j = w.heap.size ∨ j = w3.heap.size ∨ j = X.heap.size) _ _ w.heap.size w3.heap.size Y.heap.size Z (Int.le_trans (by decide) HH.out.1) HH.out.2 hA2 hb0 hb4 hb6 (fun j h => by rcases h with (h | rfl | rfl | rfl | rfl) | rfl | rfl | rfl;exact hFz j h;exact l2;exact l0;exact l4;exact l1;exact l0;exact l4;exact l5)
 have hA4:=hA3.mono (G:=fun j => F j ∨ (w.heap.size ≤ j ∧ j ≠ w.heap.size+1+1+1 ∧ j < Z.heap.size)) (fun j h => by
  have q1:=hrb
  have q2:=hszw
  have q3:=hszX
  have q4:=hszY
  rcases h with ((h | rfl | rfl | rfl | rfl) | rfl | rfl | rfl) | rfl | rfl | rfl
  exact .inl h
  all_goals exact .inr ⟨by omega,by omega,by omega⟩)
 clear hDz hA1 hA2 hA3
 refine (wg_any s ⟨i,g0,t⟩ (hldgT s.p s.th ⟨i,g0,t⟩ (tchT s.p s.th (d (s.p.fdF i fd)))) badT (fun j => F j ∨ (w.heap.size ≤ j ∧ j ≠ w.heap.size+1+1+1 ∧ j < Z.heap.size)) _ _ Z ((bad_AR _).mono fun j h => h.elim) hA4 (fun j h => h.elim (fun h => hFz j h) fun h => h.2.2)).mono ?_
 rintro e w' hR
 obtain ⟨v',F',rfl,hX,hp,hbn,hsub,hnF,hbq⟩:=hR.tail (G:=F) (w.heap.size+1+1+1) hE (heap_lt hb3) (fun h => h.elim (fun h => by have:=hF _ h;omega) fun h => h.2.1 rfl) (fun j h => h.imp_right fun h => h.1)
 have hbx:=hbq.trans hb3
 clear hbq hR
 clear hE hb0 hb1 hb2 hb3 hb4 hb5 hb6 hA4 l0 l1 l2 l4 l5 l6 hFz
 obtain ⟨y0,y1,a2,fn2,rfl,HFN,HX⟩:=tlR hp hX hbx hbn hsub hnF (by omega)
 obtain ⟨c0,c1,c2,c3,c4,c5,c6,c7,cz,ll⟩:=eit_of hbx
 clear hX hbx hp hbn hsub hnF
 rcases HFN.out with rfl | ⟨g',caps',rfl⟩
 all_goals
  go_wp2
  clear c0 c1 c2 c3 c4 c5 c6 c7 cz ll
  obtain ⟨hX,hB,hP⟩:=HX.out
  clear HX
  generalize (World.setCell _ (⟨w.heap.size+1+1+1,7,none⟩ : Addr) _) = Z at hX hB hP ⊢
  obtain ⟨c0,c1,c2,c3,c4,c5,c6,c7,cz,ll⟩:=eit_of hB
  exact bodyPost_ret (by simp only [results,Tryz.results116,go_sem];simp [go_sem,c0,c1,c2,c3,c4,c5,c6,c7]) rfl ⟨_,F',rfl,hX,hP⟩
theorem look_PT (s:Se) (x:BitVec 64) (fd:Int) (d:Int → Tr (BitVec 64)) (F:Nat → Prop) (fn:Value) (w:World) (hD:CT kI kU d F fn w) (hF:Bnd F w):Calls Tryz.prog 116 #[seV s,.int .u64 (U x),.int .i64 fd,fn] w (RetP (PT kR (lookT s x fd d)) F w):=by
 obtain ⟨g,caps,rfl,hg,hc⟩:=id hD
 clear hg hc
 unfold lookT
 by_cases h1:s.ok
 ·by_cases h2:0 ≤ fd ∧ fd ≤ 2
  ·rw [if_pos ⟨h1,h2⟩]
   by_cases h3:isMine x s.tn s.p.n
   ·rw [if_pos h3]
    have h4:=hnN_ok x
    unfold Hn.ok at h4
    exact look_yes s x (hnN x) fd d F g caps w (fun W => seat_yes s h1 W) h2 (Lib.hid (mineH_yes x _ _ h3)) (Lib.hid (decide_eq_true h3)) ⟨h4.1,by omega⟩ hD hF
   ·rw [if_neg h3]
    exact (look_bad s x _ fd g caps w (fun W => seat_yes s h1 W) h2 (Lib.hid rfl) (Lib.hid (decide_eq_false h3))).mono fun _ _ h => h.mono fun _ h => h.elim
  ·rw [if_neg fun h => h2 h.2]
   exact (look_arg s x fd g caps w true (upF fd 2) (fun W => seat_yes s h1 W) rfl (fun h => by rw [upF_no h2] at h;cases h.2)).mono fun _ _ h => h.mono fun _ h => h.elim
 ·rw [if_neg fun h => h1 h.1]
  exact (look_arg s x fd g caps w false (upF fd 2) (fun W => seat_no s h1 W) rfl (fun h => by cases h.1)).mono fun _ _ h => h.mono fun _ h => h.elim
end Go.Proofs.YthjklbonebnekaaGreat

