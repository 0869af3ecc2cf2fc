/-
  What the call of look comes to. Conditions: those of each theorem.
-/
import Derived.Test.YthjklbonebnekaaGreatGab
import Derived.Test.YthjklbonebnekaaGreatGal
import Derived.Test.YthjklbonebnekaaGreatGbg
import Derived.Test.YthjklbonebnekaaGreatGbr
set_option maxRecDepth 8000
set_option maxHeartbeats 4000000
namespace Go.Proofs.YthjklbonebnekaaGreat
open Go Go.RowKit
def lookT (s:Se) (x:BitVec 64) (fd:Int) (d:Int → Tr (BitVec 64)):Tr Rz:=if s.ok ∧ 0 ≤ fd ∧ fd ≤ 2 then (if isMine x s.tn s.p.n then lkT s.p s.th (hnN x) (d (s.p.fdF (hnN x).i fd)) else badT) else .done ⟨1,0#64⟩
theorem look_arg (s:Se) (x:BitVec 64) (fd:Int) (g:FuncId) (caps:Array Value) (w:World) (r1 r2:Bool) (hr:∀ W,Calls Tryz.prog 43 #[seV s] W (Ret (.bool r1) W)) (h2:upF fd 2 = r2) (hn:¬ (r1 = true ∧ r2 = true)) :
  Calls Tryz.prog 116 #[seV s,.int .u64 (U x),.int .i64 fd,.func (.func g) #[] caps] w (RetP (PT kR (.done ⟨1,0#64⟩)) noF w):=by
 cases r1 with
 | true =>
  obtain rfl:r2 = false:=by cases r2 with | true => exact absurd ⟨rfl,rfl⟩ hn | false => rfl
  clear hn
  replace hr:=Lib.hid hr
  go_enter Tryz.func116,Tryz.ntmps116
  go_wp2_with (go_at_call 43;refine Hid.out ?_)
  refine Lib.hid ?_
  have ⟨hE,hb0,hb1,hb2,hb3,hW⟩:=al4 w (.cells #[.int .i64 s.p.n,.int .i64 s.p.t,.int .i64 s.p.r,.int .i64 s.p.d,.int .i64 s.p.b,.int .i64 s.p.g,.int .i64 s.tn,.int .i64 s.th] 82) (.cells #[.int .i64 fd] 3) (.cells #[.func (.func g) #[] caps] 205) (.cells #[.int .i64 0,.int .u64 0,.int .i64 0,.int .i64 0,.int .u64 0,.int .u64 0,.nilFunc,.pointer none] 99)
  generalize ((((w.alloc (.cells #[.int .i64 s.p.n,.int .i64 s.p.t,.int .i64 s.p.r,.int .i64 s.p.d,.int .i64 s.p.b,.int .i64 s.p.g,.int .i64 s.tn,.int .i64 s.th] 82)).alloc (.cells #[.int .i64 fd] 3)).alloc (.cells #[.func (.func g) #[] caps] 205)).alloc (.cells #[.int .i64 0,.int .u64 0,.int .i64 0,.int .i64 0,.int .u64 0,.int .u64 0,.nilFunc,.pointer none] 99)) = W at hE hb0 hb1 hb2 hb3 hW ⊢
  clear hW
  refine (hr.out W).mono ?_
  rintro e w1 ⟨rfl,hx⟩
  replace hE:=ext_trans hE hx
  replace hb0:=(hx.block _ (heap_lt hb0)).trans hb0
  replace hb1:=(hx.block _ (heap_lt hb1)).trans hb1
  replace hb2:=(hx.block _ (heap_lt hb2)).trans hb2
  replace hb3:=(hx.block _ (heap_lt hb3)).trans hb3
  clear hx
  have d1_0:=cell_at (o:=0) hb1 rfl
  have e1:=cell_lt d1_0
  replace hE:=Lib.hid hE
  replace hb0:=Lib.hid hb0
  replace hb1:=Lib.hid hb1
  replace hb2:=Lib.hid hb2
  replace hb3:=Lib.hid hb3
  go_wp2_with (go_at_call 108;refine (cupTo_any fd 2 _).mono ?_;rintro e w2 ⟨rfl,hx⟩;rw [h2];refine Hid.out ?_)
  refine Lib.hid ?_
  replace hE:=hE.out
  replace hb0:=hb0.out
  replace hb1:=hb1.out
  replace hb2:=hb2.out
  replace hb3:=hb3.out
  clear d1_0 e1
  replace hE:=ext_trans hE hx
  replace hb0:=(hx.block _ (heap_lt hb0)).trans hb0
  replace hb1:=(hx.block _ (heap_lt hb1)).trans hb1
  replace hb2:=(hx.block _ (heap_lt hb2)).trans hb2
  replace hb3:=(hx.block _ (heap_lt hb3)).trans hb3
  clear hx
  replace hE:=Lib.hid hE
  replace hb0:=Lib.hid hb0
  replace hb1:=Lib.hid hb1
  replace hb2:=Lib.hid hb2
  replace hb3:=Lib.hid hb3
  go_wp2_with (go_at_call 111;refine Hid.out ?_)
  refine Lib.hid ?_
  replace hE:=hE.out
  replace hb0:=hb0.out
  replace hb1:=hb1.out
  replace hb2:=hb2.out
  replace hb3:=hb3.out
  refine (fails_PT 1 w2).mono ?_
  rintro e w' hR
  obtain ⟨v',F',rfl,hX,hp,hbn,hsub,hnF,hbq⟩:=hR.tail (G:=noF) (w.heap.size+1+1+1) hE (heap_lt hb3) (fun h => h) (fun _ h => h.elim)
  have hbx:=hbq.trans hb3
  clear hbq hR
  clear hE hb0 hb1 hb2 hb3 hr
  obtain ⟨y0,y1,a2,fn2,rfl,HFN,HX⟩:=tlR hp hX hbx hbn hsub hnF (by omega)
  obtain ⟨c0,c1,c2,c3,c4,c5,c6,c7,cz,ll⟩:=eit_of hbx
  clear hX hbx hp hbn hsub hnF
  rcases HFN.out with rfl | ⟨g',caps',rfl⟩
  all_goals
   go_wp2
   clear c0 c1 c2 c3 c4 c5 c6 c7 cz ll
   obtain ⟨hX,hB,hP⟩:=HX.out
   clear HX
   generalize (World.setCell _ (⟨w.heap.size+1+1+1,7,none⟩ : Addr) _) = Z at hX hB hP ⊢
   obtain ⟨c0,c1,c2,c3,c4,c5,c6,c7,cz,ll⟩:=eit_of hB
   exact bodyPost_ret (by simp only [results,Tryz.results116,go_sem];simp [go_sem,c0,c1,c2,c3,c4,c5,c6,c7]) rfl ⟨_,F',rfl,hX,hP⟩
 | false =>
  clear hn
  replace hr:=Lib.hid hr
  go_enter Tryz.func116,Tryz.ntmps116
  go_wp2_with (go_at_call 43;refine Hid.out ?_)
  refine Lib.hid ?_
  have ⟨hE,hb0,hb1,hb2,hb3,hW⟩:=al4 w (.cells #[.int .i64 s.p.n,.int .i64 s.p.t,.int .i64 s.p.r,.int .i64 s.p.d,.int .i64 s.p.b,.int .i64 s.p.g,.int .i64 s.tn,.int .i64 s.th] 82) (.cells #[.int .i64 fd] 3) (.cells #[.func (.func g) #[] caps] 205) (.cells #[.int .i64 0,.int .u64 0,.int .i64 0,.int .i64 0,.int .u64 0,.int .u64 0,.nilFunc,.pointer none] 99)
  generalize ((((w.alloc (.cells #[.int .i64 s.p.n,.int .i64 s.p.t,.int .i64 s.p.r,.int .i64 s.p.d,.int .i64 s.p.b,.int .i64 s.p.g,.int .i64 s.tn,.int .i64 s.th] 82)).alloc (.cells #[.int .i64 fd] 3)).alloc (.cells #[.func (.func g) #[] caps] 205)).alloc (.cells #[.int .i64 0,.int .u64 0,.int .i64 0,.int .i64 0,.int .u64 0,.int .u64 0,.nilFunc,.pointer none] 99)) = W at hE hb0 hb1 hb2 hb3 hW ⊢
  clear hW
  refine (hr.out W).mono ?_
  rintro e w1 ⟨rfl,hx⟩
  replace hE:=ext_trans hE hx
  replace hb0:=(hx.block _ (heap_lt hb0)).trans hb0
  replace hb1:=(hx.block _ (heap_lt hb1)).trans hb1
  replace hb2:=(hx.block _ (heap_lt hb2)).trans hb2
  replace hb3:=(hx.block _ (heap_lt hb3)).trans hb3
  clear hx
  replace hE:=Lib.hid hE
  replace hb0:=Lib.hid hb0
  replace hb1:=Lib.hid hb1
  replace hb2:=Lib.hid hb2
  replace hb3:=Lib.hid hb3
  go_wp2_with (go_at_call 111;refine Hid.out ?_)
  refine Lib.hid ?_
  replace hE:=hE.out
  replace hb0:=hb0.out
  replace hb1:=hb1.out
  replace hb2:=hb2.out
  replace hb3:=hb3.out
  refine (fails_PT 1 w1).mono ?_
  rintro e w' hR
  obtain ⟨v',F',rfl,hX,hp,hbn,hsub,hnF,hbq⟩:=hR.tail (G:=noF) (w.heap.size+1+1+1) hE (heap_lt hb3) (fun h => h) (fun _ h => h.elim)
  have hbx:=hbq.trans hb3
  clear hbq hR
  clear hE hb0 hb1 hb2 hb3 hr
  obtain ⟨y0,y1,a2,fn2,rfl,HFN,HX⟩:=tlR hp hX hbx hbn hsub hnF (by omega)
  obtain ⟨c0,c1,c2,c3,c4,c5,c6,c7,cz,ll⟩:=eit_of hbx
  clear hX hbx hp hbn hsub hnF
  rcases HFN.out with rfl | ⟨g',caps',rfl⟩
  all_goals
   go_wp2
   clear c0 c1 c2 c3 c4 c5 c6 c7 cz ll
   obtain ⟨hX,hB,hP⟩:=HX.out
   clear HX
   generalize (World.setCell _ (⟨w.heap.size+1+1+1,7,none⟩ : Addr) _) = Z at hX hB hP ⊢
   obtain ⟨c0,c1,c2,c3,c4,c5,c6,c7,cz,ll⟩:=eit_of hB
   exact bodyPost_ret (by simp only [results,Tryz.results116,go_sem];simp [go_sem,c0,c1,c2,c3,c4,c5,c6,c7]) rfl ⟨_,F',rfl,hX,hP⟩
theorem look_bad (s:Se) (x:BitVec 64) (h:Hn) (fd:Int) (g:FuncId) (caps:Array Value) (w:World) (hr:∀ W,Calls Tryz.prog 43 #[seV s] W (Ret (.bool true) W)) (hfd:0 ≤ fd ∧ fd ≤ 2) (hm:Hid (mineH x s.tn s.p.n = h)) (hmr:Hid (decide (isMine x s.tn s.p.n) = false)) :
  Calls Tryz.prog 116 #[seV s,.int .u64 (U x),.int .i64 fd,.func (.func g) #[] caps] w (RetP (PT kR badT) noF w):=by
 obtain ⟨i,g0,t⟩:=h
 have HM:∀ W,Calls Tryz.prog 123 #[seV s,.int .u64 (U x)] W (Ret (.tuple #[.agg #[.int .i64 i,.int .i64 g0,.int .i64 t],.bool false]) W):=fun W => cmine_any s x ⟨i,g0,t⟩ false hm hmr W
 have h2:upF fd 2 = true:=upF_yes hfd.1 hfd.2
 clear hm hmr hfd
 replace hr:=Lib.hid hr
 replace HM:=Lib.hid HM
 go_enter Tryz.func116,Tryz.ntmps116
 go_wp2_with (go_at_call 43;refine Hid.out ?_)
 refine Lib.hid ?_
 have ⟨hE,hb0,hb1,hb2,hb3,hW⟩:=al4 w (.cells #[.int .i64 s.p.n,.int .i64 s.p.t,.int .i64 s.p.r,.int .i64 s.p.d,.int .i64 s.p.b,.int .i64 s.p.g,.int .i64 s.tn,.int .i64 s.th] 82) (.cells #[.int .i64 fd] 3) (.cells #[.func (.func g) #[] caps] 205) (.cells #[.int .i64 0,.int .u64 0,.int .i64 0,.int .i64 0,.int .u64 0,.int .u64 0,.nilFunc,.pointer none] 99)
 generalize ((((w.alloc (.cells #[.int .i64 s.p.n,.int .i64 s.p.t,.int .i64 s.p.r,.int .i64 s.p.d,.int .i64 s.p.b,.int .i64 s.p.g,.int .i64 s.tn,.int .i64 s.th] 82)).alloc (.cells #[.int .i64 fd] 3)).alloc (.cells #[.func (.func g) #[] caps] 205)).alloc (.cells #[.int .i64 0,.int .u64 0,.int .i64 0,.int .i64 0,.int .u64 0,.int .u64 0,.nilFunc,.pointer none] 99)) = W at hE hb0 hb1 hb2 hb3 hW ⊢
 clear hW
 refine (hr.out W).mono ?_
 rintro e w1 ⟨rfl,hx⟩
 replace hE:=ext_trans hE hx
 replace hb0:=(hx.block _ (heap_lt hb0)).trans hb0
 replace hb1:=(hx.block _ (heap_lt hb1)).trans hb1
 replace hb2:=(hx.block _ (heap_lt hb2)).trans hb2
 replace hb3:=(hx.block _ (heap_lt hb3)).trans hb3
 clear hx
 have d1_0:=cell_at (o:=0) hb1 rfl
 have e1:=cell_lt d1_0
 replace hE:=Lib.hid hE
 replace hb0:=Lib.hid hb0
 replace hb1:=Lib.hid hb1
 replace hb2:=Lib.hid hb2
 replace hb3:=Lib.hid hb3
 go_wp2_with (go_at_call 108;refine (cupTo_any fd 2 _).mono ?_;rintro e w2 ⟨rfl,hx⟩;rw [h2];refine Hid.out ?_)
 refine Lib.hid ?_
 replace hE:=hE.out
 replace hb0:=hb0.out
 replace hb1:=hb1.out
 replace hb2:=hb2.out
 replace hb3:=hb3.out
 clear d1_0 e1
 replace hE:=ext_trans hE hx
 replace hb0:=(hx.block _ (heap_lt hb0)).trans hb0
 replace hb1:=(hx.block _ (heap_lt hb1)).trans hb1
 replace hb2:=(hx.block _ (heap_lt hb2)).trans hb2
 replace hb3:=(hx.block _ (heap_lt hb3)).trans hb3
 clear hx
 have ⟨z0,z1,z2,z3,z4,z5,z6,z7,zl⟩:=SBox.plc hb0
 replace hE:=Lib.hid hE
 replace hb0:=Lib.hid hb0
 replace hb1:=Lib.hid hb1
 replace hb2:=Lib.hid hb2
 replace hb3:=Lib.hid hb3
 go_wp2_with (go_at_call 123;refine Hid.out ?_)
 refine Lib.hid ?_
 replace hE:=hE.out
 replace hb0:=hb0.out
 replace hb1:=hb1.out
 replace hb2:=hb2.out
 replace hb3:=hb3.out
 clear z0 z1 z2 z3 z4 z5 z6 z7 zl
 refine (HM.out w2).mono ?_
 rintro e w3 ⟨rfl,hx⟩
 replace hE:=ext_trans hE hx
 replace hb0:=(hx.block _ (heap_lt hb0)).trans hb0
 replace hb1:=(hx.block _ (heap_lt hb1)).trans hb1
 replace hb2:=(hx.block _ (heap_lt hb2)).trans hb2
 replace hb3:=(hx.block _ (heap_lt hb3)).trans hb3
 clear hx
 have hrb:=heap_lt hb3
 have hszw:=hE.size
 replace hE:=Lib.hid hE
 replace hb0:=Lib.hid hb0
 replace hb1:=Lib.hid hb1
 replace hb2:=Lib.hid hb2
 replace hb3:=Lib.hid hb3
 go_wp2_with (go_at_call 124;refine Hid.out ?_)
 refine Lib.hid ?_
 replace hE:=hE.out
 replace hb0:=hb0.out
 replace hb1:=hb1.out
 replace hb2:=hb2.out
 replace hb3:=hb3.out
 have hx:Ext w3 (w3.alloc (.cells #[.int .i64 i,.int .i64 g0,.int .i64 t] 107)):=ext_alloc _ (ext_refl w3)
 have hb4:(w3.alloc (.cells #[.int .i64 i,.int .i64 g0,.int .i64 t] 107)).heap[w3.heap.size]? = some (.cells #[.int .i64 i,.int .i64 g0,.int .i64 t] 107):=heap_at _ _ _ rfl
 have hszhb4:=hE.size
 have hrbhb4:=heap_lt hb3
 generalize w3.alloc (.cells #[.int .i64 i,.int .i64 g0,.int .i64 t] 107) = w3A at hx hb4 ⊢
 replace hE:=ext_trans hE hx
 replace hb0:=(hx.block _ (heap_lt hb0)).trans hb0
 replace hb1:=(hx.block _ (heap_lt hb1)).trans hb1
 replace hb2:=(hx.block _ (heap_lt hb2)).trans hb2
 replace hb3:=(hx.block _ (heap_lt hb3)).trans hb3
 clear hx
 refine (bad_PT w3A).mono ?_
 rintro e w' hR
 obtain ⟨v',F',rfl,hX,hp,hbn,hsub,hnF,hbq⟩:=hR.tail (G:=noF) (w.heap.size+1+1+1) hE (heap_lt hb3) (fun h => h) (fun _ h => h.elim)
 have hbx:=hbq.trans hb3
 clear hbq hR
 clear hE hb0 hb1 hb2 hb3 hb4 hr HM
 obtain ⟨y0,y1,a2,fn2,rfl,HFN,HX⟩:=tlR hp hX hbx hbn hsub hnF (by omega)
 obtain ⟨c0,c1,c2,c3,c4,c5,c6,c7,cz,ll⟩:=eit_of hbx
 clear hX hbx hp hbn hsub hnF
 rcases HFN.out with rfl | ⟨g',caps',rfl⟩
 all_goals
  go_wp2
  clear c0 c1 c2 c3 c4 c5 c6 c7 cz ll
  obtain ⟨hX,hB,hP⟩:=HX.out
  clear HX
  generalize (World.setCell _ (⟨w.heap.size+1+1+1,7,none⟩ : Addr) _) = Z at hX hB hP ⊢
  obtain ⟨c0,c1,c2,c3,c4,c5,c6,c7,cz,ll⟩:=eit_of hB
  exact bodyPost_ret (by simp only [results,Tryz.results116,go_sem];simp [go_sem,c0,c1,c2,c3,c4,c5,c6,c7]) rfl ⟨_,F',rfl,hX,hP⟩
theorem look_yes (s:Se) (x:BitVec 64) (h:Hn) (fd:Int) (d:Int → Tr (BitVec 64)) (F:Nat → Prop) (g:FuncId) (caps:Array Value) (w:World) (hr:∀ W,Calls Tryz.prog 43 #[seV s] W (Ret (.bool true) W)) (hfd:0 ≤ fd ∧ fd ≤ 2) (hm:Hid (mineH x s.tn s.p.n = h)) (hmr:Hid (decide (isMine x s.tn s.p.n) = true)) (hh:0 ≤ h.i ∧ h.i < 4611686018427387904) (hD:CT kI kU d F (.func (.func g) #[] caps) w) (hF:Bnd F w) :
  Calls Tryz.prog 116 #[seV s,.int .u64 (U x),.int .i64 fd,.func (.func g) #[] caps] w (RetP (PT kR (lkT s.p s.th h (d (s.p.fdF h.i fd)))) F w):=by
 obtain ⟨i,g0,t⟩:=h
 have HM:∀ W,Calls Tryz.prog 123 #[seV s,.int .u64 (U x)] W (Ret (.tuple #[.agg #[.int .i64 i,.int .i64 g0,.int .i64 t],.bool true]) W):=fun W => cmine_any s x ⟨i,g0,t⟩ true hm hmr W
 have h2:upF fd 2 = true:=upF_yes hfd.1 hfd.2
 clear hm hmr hfd
 have HD:=Lib.hid hD
 have HH:=Lib.hid hh
 clear hD hh
 replace hr:=Lib.hid hr
 replace HM:=Lib.hid HM
 go_enter Tryz.func116,Tryz.ntmps116
 go_wp2_with (go_at_call 43;refine Hid.out ?_)
 refine Lib.hid ?_
 have ⟨hE,hb0,hb1,hb2,hb3,hW⟩:=al4 w (.cells #[.int .i64 s.p.n,.int .i64 s.p.t,.int .i64 s.p.r,.int .i64 s.p.d,.int .i64 s.p.b,.int .i64 s.p.g,.int .i64 s.tn,.int .i64 s.th] 82) (.cells #[.int .i64 fd] 3) (.cells #[.func (.func g) #[] caps] 205) (.cells #[.int .i64 0,.int .u64 0,.int .i64 0,.int .i64 0,.int .u64 0,.int .u64 0,.nilFunc,.pointer none] 99)
 generalize ((((w.alloc (.cells #[.int .i64 s.p.n,.int .i64 s.p.t,.int .i64 s.p.r,.int .i64 s.p.d,.int .i64 s.p.b,.int .i64 s.p.g,.int .i64 s.tn,.int .i64 s.th] 82)).alloc (.cells #[.int .i64 fd] 3)).alloc (.cells #[.func (.func g) #[] caps] 205)).alloc (.cells #[.int .i64 0,.int .u64 0,.int .i64 0,.int .i64 0,.int .u64 0,.int .u64 0,.nilFunc,.pointer none] 99)) = W at hE hb0 hb1 hb2 hb3 hW ⊢
 clear hW
 refine (hr.out W).mono ?_
 rintro e w1 ⟨rfl,hx⟩
 replace hE:=ext_trans hE hx
 replace hb0:=(hx.block _ (heap_lt hb0)).trans hb0
 replace hb1:=(hx.block _ (heap_lt hb1)).trans hb1
 replace hb2:=(hx.block _ (heap_lt hb2)).trans hb2
 replace hb3:=(hx.block _ (heap_lt hb3)).trans hb3
 clear hx
 have d1_0:=cell_at (o:=0) hb1 rfl
 have e1:=cell_lt d1_0
 replace hE:=Lib.hid hE
 replace hb0:=Lib.hid hb0
 replace hb1:=Lib.hid hb1
 replace hb2:=Lib.hid hb2
 replace hb3:=Lib.hid hb3
 go_wp2_with (go_at_call 108;refine (cupTo_any fd 2 _).mono ?_;rintro e w2 ⟨rfl,hx⟩;rw [h2];refine Hid.out ?_)
 refine Lib.hid ?_
 replace hE:=hE.out
 replace hb0:=hb0.out
 replace hb1:=hb1.out
 replace hb2:=hb2.out
 replace hb3:=hb3.out
 clear d1_0 e1
 replace hE:=ext_trans hE hx
 replace hb0:=(hx.block _ (heap_lt hb0)).trans hb0
 replace hb1:=(hx.block _ (heap_lt hb1)).trans hb1
 replace hb2:=(hx.block _ (heap_lt hb2)).trans hb2
 replace hb3:=(hx.block _ (heap_lt hb3)).trans hb3
 clear hx
 have ⟨z0,z1,z2,z3,z4,z5,z6,z7,zl⟩:=SBox.plc hb0
 replace hE:=Lib.hid hE
 replace hb0:=Lib.hid hb0
 replace hb1:=Lib.hid hb1
 replace hb2:=Lib.hid hb2
 replace hb3:=Lib.hid hb3
 go_wp2_with (go_at_call 123;refine Hid.out ?_)
 refine Lib.hid ?_
 replace hE:=hE.out
 replace hb0:=hb0.out
 replace hb1:=hb1.out
 replace hb2:=hb2.out
 replace hb3:=hb3.out
 clear z0 z1 z2 z3 z4 z5 z6 z7 zl
 refine (HM.out w2).mono ?_
 rintro e w3 ⟨rfl,hx⟩
 replace hE:=ext_trans hE hx
 replace hb0:=(hx.block _ (heap_lt hb0)).trans hb0
 replace hb1:=(hx.block _ (heap_lt hb1)).trans hb1
 replace hb2:=(hx.block _ (heap_lt hb2)).trans hb2
 replace hb3:=(hx.block _ (heap_lt hb3)).trans hb3
 clear hx
 have hrb:=heap_lt hb3
 have hszw:=hE.size
 replace hE:=Lib.hid hE
 replace hb0:=Lib.hid hb0
 replace hb1:=Lib.hid hb1
 replace hb2:=Lib.hid hb2
 replace hb3:=Lib.hid hb3
 go_upto_region 4 with (fail)
 replace hE:=hE.out
 replace hb0:=hb0.out
 replace hb1:=hb1.out
 replace hb2:=hb2.out
 replace hb3:=hb3.out
 have hx:Ext w3 (w3.alloc (.cells #[.int .i64 i,.int .i64 g0,.int .i64 t] 107)):=ext_alloc _ (ext_refl w3)
 have hb4:(w3.alloc (.cells #[.int .i64 i,.int .i64 g0,.int .i64 t] 107)).heap[w3.heap.size]? = some (.cells #[.int .i64 i,.int .i64 g0,.int .i64 t] 107):=heap_at _ _ _ rfl
 generalize w3.alloc (.cells #[.int .i64 i,.int .i64 g0,.int .i64 t] 107) = X at hx hb4 ⊢
 replace hE:=ext_trans hE hx
 replace hb0:=(hx.block _ (heap_lt hb0)).trans hb0
 replace hb1:=(hx.block _ (heap_lt hb1)).trans hb1
 replace hb2:=(hx.block _ (heap_lt hb2)).trans hb2
 replace hb3:=(hx.block _ (heap_lt hb3)).trans hb3
 clear hx
 have hszX:=hE.size
 have hrbX:=heap_lt hb3
 replace hE:=Lib.hid hE
 replace hb0:=Lib.hid hb0
 replace hb1:=Lib.hid hb1
 replace hb2:=Lib.hid hb2
 replace hb3:=Lib.hid hb3
 replace hb4:=Lib.hid hb4
 go_upto_region 7 with (fail)
 replace hE:=hE.out
 replace hb0:=hb0.out
 replace hb1:=hb1.out
 replace hb2:=hb2.out
 replace hb3:=hb3.out
 replace hb4:=hb4.out
 have hx:Ext X (X.alloc (.cells #[.func (.func 181) #[] #[.pointer (some ⟨w.heap.size+1+1,0,none⟩),.pointer (some ⟨w.heap.size,0,none⟩),.pointer (some ⟨w3.heap.size,0,none⟩),.pointer (some ⟨w.heap.size+1,0,none⟩)]] 212)):=ext_alloc _ (ext_refl X)
 have hb5:(X.alloc (.cells #[.func (.func 181) #[] #[.pointer (some ⟨w.heap.size+1+1,0,none⟩),.pointer (some ⟨w.heap.size,0,none⟩),.pointer (some ⟨w3.heap.size,0,none⟩),.pointer (some ⟨w.heap.size+1,0,none⟩)]] 212)).heap[X.heap.size]? = some (.cells #[.func (.func 181) #[] #[.pointer (some ⟨w.heap.size+1+1,0,none⟩),.pointer (some ⟨w.heap.size,0,none⟩),.pointer (some ⟨w3.heap.size,0,none⟩),.pointer (some ⟨w.heap.size+1,0,none⟩)]] 212):=heap_at _ _ _ rfl
 generalize X.alloc (.cells #[.func (.func 181) #[] #[.pointer (some ⟨w.heap.size+1+1,0,none⟩),.pointer (some ⟨w.heap.size,0,none⟩),.pointer (some ⟨w3.heap.size,0,none⟩),.pointer (some ⟨w.heap.size+1,0,none⟩)]] 212) = Y at hx hb5 ⊢
 replace hE:=ext_trans hE hx
 replace hb0:=(hx.block _ (heap_lt hb0)).trans hb0
 replace hb1:=(hx.block _ (heap_lt hb1)).trans hb1
 replace hb2:=(hx.block _ (heap_lt hb2)).trans hb2
 replace hb3:=(hx.block _ (heap_lt hb3)).trans hb3
 replace hb4:=(hx.block _ (heap_lt hb4)).trans hb4
 clear hx
 have hszY:=hE.size
 have hrbY:=heap_lt hb3
 replace hE:=Lib.hid hE
 replace hb0:=Lib.hid hb0
 replace hb1:=Lib.hid hb1
 replace hb2:=Lib.hid hb2
 replace hb3:=Lib.hid hb3
 replace hb4:=Lib.hid hb4
 replace hb5:=Lib.hid hb5
 go_upto_region 8 with (fail)
 replace hE:=hE.out
 replace hb0:=hb0.out
 replace hb1:=hb1.out
 replace hb2:=hb2.out
 replace hb3:=hb3.out
 replace hb4:=hb4.out
 replace hb5:=hb5.out
 have hx:Ext Y (Y.alloc (.cells #[.func (.func 185) #[] #[.pointer (some ⟨w.heap.size,0,none⟩),.pointer (some ⟨w3.heap.size,0,none⟩),.pointer (some ⟨X.heap.size,0,none⟩)]] 259)):=ext_alloc _ (ext_refl Y)
 have hb6:(Y.alloc (.cells #[.func (.func 185) #[] #[.pointer (some ⟨w.heap.size,0,none⟩),.pointer (some ⟨w3.heap.size,0,none⟩),.pointer (some ⟨X.heap.size,0,none⟩)]] 259)).heap[Y.heap.size]? = some (.cells #[.func (.func 185) #[] #[.pointer (some ⟨w.heap.size,0,none⟩),.pointer (some ⟨w3.heap.size,0,none⟩),.pointer (some ⟨X.heap.size,0,none⟩)]] 259):=heap_at _ _ _ rfl
 generalize Y.alloc (.cells #[.func (.func 185) #[] #[.pointer (some ⟨w.heap.size,0,none⟩),.pointer (some ⟨w3.heap.size,0,none⟩),.pointer (some ⟨X.heap.size,0,none⟩)]] 259) = Z at hx hb6 ⊢
 replace hE:=ext_trans hE hx
 replace hb0:=(hx.block _ (heap_lt hb0)).trans hb0
 replace hb1:=(hx.block _ (heap_lt hb1)).trans hb1
 replace hb2:=(hx.block _ (heap_lt hb2)).trans hb2
 replace hb3:=(hx.block _ (heap_lt hb3)).trans hb3
 replace hb4:=(hx.block _ (heap_lt hb4)).trans hb4
 replace hb5:=(hx.block _ (heap_lt hb5)).trans hb5
 clear hx
 have hszZ:=hE.size
 have hrbZ:=heap_lt hb3
 have ⟨z0,z1,z2,z3,z4,z5,z6,z7,zl⟩:=SBox.plc hb0
 have d4_0:=cell_at (o:=0) hb4 rfl
 have d4_1:=cell_at (o:=1) hb4 rfl
 have d4_2:=cell_at (o:=2) hb4 rfl
 have e4:=cell_lt d4_0
 replace hE:=Lib.hid hE
 replace hb0:=Lib.hid hb0
 replace hb1:=Lib.hid hb1
 replace hb2:=Lib.hid hb2
 replace hb3:=Lib.hid hb3
 replace hb4:=Lib.hid hb4
 replace hb5:=Lib.hid hb5
 replace hb6:=Lib.hid hb6
 go_wp2_with (go_at_call 125;refine Hid.out ?_)
 refine Lib.hid ?_
 replace hE:=hE.out
 replace hb0:=hb0.out
 replace hb1:=hb1.out
 replace hb2:=hb2.out
 replace hb3:=hb3.out
 replace hb4:=hb4.out
 replace hb5:=hb5.out
 replace hb6:=hb6.out
 clear z0 z1 z2 z3 z4 z5 z6 z7 zl d4_0 d4_1 d4_2 e4
 have hDz:=HD.out.agr (Agr.of_ext hE hF)
 have hFz:=hF.ext hE.size
 have l0:=heap_lt hb0
 have l1:=heap_lt hb1
 have l2:=heap_lt hb2
 have l4:=heap_lt hb4
 have l5:=heap_lt hb5
 have l6:=heap_lt hb6
 have hA1:=tch_AR s ⟨i,g0,t⟩ fd d F g caps (w.heap.size+1+1) w.heap.size w3.heap.size (w.heap.size+1) Z hDz hb2 hb0 hb4 hb1 hFz
 have hA2:=agn_CT s ⟨i,g0,t⟩ (tchT s.p s.th (d (s.p.fdF i fd))) (fun j => F j ∨ j = w.heap.size+1+1 ∨ j = w.heap.size ∨ j = w3.heap.size ∨ j = w.heap.size+1) _ _ w.heap.size w3.heap.size X.heap.size Z hA1 hb0 hb4 hb5 (fun j h => by rcases h with h | rfl | rfl | rfl | rfl;exact hFz j h;exact l2;exact l0;exact l4;exact l1)
 have hA3:=hldg_AR s ⟨i,g0,t⟩ (tchT s.p s.th (d (s.p.fdF i fd))) (fun j => (F j ∨ j = w.heap.size+1+1 ∨ j = w.heap.size ∨ j = w3.heap.size ∨ j = w.heap.size+1) ∨ j = w.heap.size ∨ j = w3.heap.size ∨ j = X.heap.size) _ _ w.heap.size w3.heap.size Y.heap.size Z (Int.le_trans (by decide) HH.out.1) HH.out.2 hA2 hb0 hb4 hb6 (fun j h => by rcases h with (h | rfl | rfl | rfl | rfl) | rfl | rfl | rfl;exact hFz j h;exact l2;exact l0;exact l4;exact l1;exact l0;exact l4;exact l5)
 have hA4:=hA3.mono (G:=fun j => F j ∨ (w.heap.size ≤ j ∧ j ≠ w.heap.size+1+1+1 ∧ j < Z.heap.size)) (fun j h => by
  have q1:=hrb
  have q2:=hszw
  have q3:=hszX
  have q4:=hszY
  rcases h with ((h | rfl | rfl | rfl | rfl) | rfl | rfl | rfl) | rfl | rfl | rfl
  exact .inl h
  all_goals exact .inr ⟨by omega,by omega,by omega⟩)
 clear hDz hA1 hA2 hA3
 refine (wg_any s ⟨i,g0,t⟩ (hldgT s.p s.th ⟨i,g0,t⟩ (tchT s.p s.th (d (s.p.fdF i fd)))) badT (fun j => F j ∨ (w.heap.size ≤ j ∧ j ≠ w.heap.size+1+1+1 ∧ j < Z.heap.size)) _ _ Z ((bad_AR _).mono fun j h => h.elim) hA4 (fun j h => h.elim (fun h => hFz j h) fun h => h.2.2)).mono ?_
 rintro e w' hR
 obtain ⟨v',F',rfl,hX,hp,hbn,hsub,hnF,hbq⟩:=hR.tail (G:=F) (w.heap.size+1+1+1) hE (heap_lt hb3) (fun h => h.elim (fun h => by have:=hF _ h;omega) fun h => h.2.1 rfl) (fun j h => h.imp_right fun h => h.1)
 have hbx:=hbq.trans hb3
 clear hbq hR
 clear hE hb0 hb1 hb2 hb3 hb4 hb5 hb6 hA4 l0 l1 l2 l4 l5 l6 hFz
 obtain ⟨y0,y1,a2,fn2,rfl,HFN,HX⟩:=tlR hp hX hbx hbn hsub hnF (by omega)
 obtain ⟨c0,c1,c2,c3,c4,c5,c6,c7,cz,ll⟩:=eit_of hbx
 clear hX hbx hp hbn hsub hnF
 rcases HFN.out with rfl | ⟨g',caps',rfl⟩
 all_goals
  go_wp2
  clear c0 c1 c2 c3 c4 c5 c6 c7 cz ll
  obtain ⟨hX,hB,hP⟩:=HX.out
  clear HX
  generalize (World.setCell _ (⟨w.heap.size+1+1+1,7,none⟩ : Addr) _) = Z at hX hB hP ⊢
  obtain ⟨c0,c1,c2,c3,c4,c5,c6,c7,cz,ll⟩:=eit_of hB
  exact bodyPost_ret (by simp only [results,Tryz.results116,go_sem];simp [go_sem,c0,c1,c2,c3,c4,c5,c6,c7]) rfl ⟨_,F',rfl,hX,hP⟩
theorem look_PT (s:Se) (x:BitVec 64) (fd:Int) (d:Int → Tr (BitVec 64)) (F:Nat → Prop) (fn:Value) (w:World) (hD:CT kI kU d F fn w) (hF:Bnd F w):Calls Tryz.prog 116 #[seV s,.int .u64 (U x),.int .i64 fd,fn] w (RetP (PT kR (lookT s x fd d)) F w):=by
 obtain ⟨g,caps,rfl,hg,hc⟩:=id hD
 clear hg hc
 unfold lookT
 by_cases h1:s.ok
 ·by_cases h2:0 ≤ fd ∧ fd ≤ 2
  ·rw [if_pos ⟨h1,h2⟩]
   by_cases h3:isMine x s.tn s.p.n
   ·rw [if_pos h3]
    have h4:=hnN_ok x
    unfold Hn.ok at h4
    exact look_yes s x (hnN x) fd d F g caps w (fun W => seat_yes s h1 W) h2 (Lib.hid (mineH_yes x _ _ h3)) (Lib.hid (decide_eq_true h3)) ⟨h4.1,by omega⟩ hD hF
   ·rw [if_neg h3]
    exact (look_bad s x _ fd g caps w (fun W => seat_yes s h1 W) h2 (Lib.hid rfl) (Lib.hid (decide_eq_false h3))).mono fun _ _ h => h.mono fun _ h => h.elim
  ·rw [if_neg fun h => h2 h.2]
   exact (look_arg s x fd g caps w true (upF fd 2) (fun W => seat_yes s h1 W) rfl (fun h => by rw [upF_no h2] at h;cases h.2)).mono fun _ _ h => h.mono fun _ h => h.elim
 ·rw [if_neg fun h => h1 h.1]
  exact (look_arg s x fd g caps w false (upF fd 2) (fun W => seat_no s h1 W) rfl (fun h => by cases h.1)).mono fun _ _ h => h.mono fun _ h => h.elim
theorem get_CT (w:World):CT kI kU getT noF (.func (.func 117) #[] #[]) w:=
 ⟨_,_,rfl,enters_of Tryz.func117 (by kernel_rfl) rfl,fun x w' _ => get_PT x w'⟩
theorem cread_PT (s:Se) (x:BitVec 64) (fd:Int) (w:World)   :
  Calls Tryz.prog 49 #[seV s,.int .u64 (U x),.int .i64 fd] w (RetP (PT kR (lookT s x fd getT)) noF w):=by
 go_enter Tryz.func49,Tryz.ntmps49
 go_wp2_with (go_at_call 116;refine Hid.out ?_)
 refine Lib.hid ?_
 have ⟨hE,hb0,hb1,hW⟩:=al2 w (.cells #[.int .i64 s.p.n,.int .i64 s.p.t,.int .i64 s.p.r,.int .i64 s.p.d,.int .i64 s.p.b,.int .i64 s.p.g,.int .i64 s.tn,.int .i64 s.th] 82) (.cells #[.int .i64 0,.int .u64 0,.int .i64 0,.int .i64 0,.int .u64 0,.int .u64 0,.nilFunc,.pointer none] 99)
 generalize ((w.alloc (.cells #[.int .i64 s.p.n,.int .i64 s.p.t,.int .i64 s.p.r,.int .i64 s.p.d,.int .i64 s.p.b,.int .i64 s.p.g,.int .i64 s.tn,.int .i64 s.th] 82)).alloc (.cells #[.int .i64 0,.int .u64 0,.int .i64 0,.int .i64 0,.int .u64 0,.int .u64 0,.nilFunc,.pointer none] 99)) = W at hE hb0 hb1 hW ⊢
 clear hW
 refine (look_PT s x fd getT noF _ W (get_CT _) (bnd_no _)).mono ?_
 rintro e w' hR
 obtain ⟨v',F',rfl,hX,hp,hbn,hsub,hnF,hbq⟩:=hR.tail (G:=noF) (w.heap.size+1) hE (heap_lt hb1) (fun h => by exact h) (fun j h => by exact h.elim)
 have hbx:=hbq.trans hb1
 clear hbq hR
 clear hE hb0 hb1
 obtain ⟨y0,y1,a2,fn2,rfl,HFN,HX⟩:=tlR hp hX hbx hbn hsub hnF (by omega)
 obtain ⟨c0,c1,c2,c3,c4,c5,c6,c7,cz,ll⟩:=eit_of hbx
 clear hX hbx hp hbn hsub hnF
 rcases HFN.out with rfl | ⟨g',caps',rfl⟩
 all_goals
  go_wp2
  clear c0 c1 c2 c3 c4 c5 c6 c7 cz ll
  obtain ⟨hX,hB,hP⟩:=HX.out
  clear HX
  generalize (World.setCell _ (⟨w.heap.size+1,7,none⟩ : Addr) _) = Z at hX hB hP ⊢
  obtain ⟨c0,c1,c2,c3,c4,c5,c6,c7,cz,ll⟩:=eit_of hB
  exact bodyPost_ret (by simp only [results,Tryz.results49,go_sem];simp [go_sem,c0,c1,c2,c3,c4,c5,c6,c7]) rfl ⟨_,F',rfl,hX,hP⟩
theorem wr2_PT (w:World):Calls Tryz.prog 121 #[.agg #[]] w (RetP (PT kU (.done 0#64)) noF w):=by
 have hq:∀ W,Calls Tryz.prog 122 #[.int .u64 0] W (RetP (PT kU (.done 0#64)) noF W):=fun W => by
  have h:=doneU_PT 0#64 W
  rw [U_0] at h
  exact h
 replace hq:=Lib.hid hq
 go_enter Tryz.func121,Tryz.ntmps121
 go_wp2_with (go_at_call 122;refine Hid.out ?_)
 refine Lib.hid ?_
 have ⟨hE,hb0,hb1,hW⟩:=al2 w (.cells #[] 132) (.cells #[.int .u64 0,.int .i64 0,.int .i64 0,.int .u64 0,.int .u64 0,.nilFunc,.pointer none] 208)
 generalize ((w.alloc (.cells #[] 132)).alloc (.cells #[.int .u64 0,.int .i64 0,.int .i64 0,.int .u64 0,.int .u64 0,.nilFunc,.pointer none] 208)) = W at hE hb0 hb1 hW ⊢
 clear hW
 refine (hq.out W).mono ?_
 rintro e w' hR
 obtain ⟨v',F',rfl,hX,hp,hbn,hsub,hnF,hbq⟩:=hR.tail (G:=noF) (w.heap.size+1) hE (heap_lt hb1) (fun h => h) (fun _ h => h.elim)
 have hbx:=hbq.trans hb1
 clear hbq hR
 clear hE hb0 hb1 hq
 obtain ⟨y,a2,fn2,rfl,HFN,HX⟩:=tlU hp hX hbx hbn hsub hnF (by omega)
 obtain ⟨c0,c1,c2,c3,c4,c5,c6,cz,ll⟩:=sev_of hbx
 clear hX hbx hp hbn hsub hnF
 rcases HFN.out with rfl | ⟨g',caps',rfl⟩
 all_goals
  go_wp2
  clear c0 c1 c2 c3 c4 c5 c6 cz ll
  obtain ⟨hX,hB,hP⟩:=HX.out
  clear HX
  generalize (World.setCell _ (⟨w.heap.size+1,6,none⟩ : Addr) _) = Z at hX hB hP ⊢
  obtain ⟨c0,c1,c2,c3,c4,c5,c6,cz,ll⟩:=sev_of hB
  exact bodyPost_ret (by simp only [results,Tryz.results121,go_sem];simp [go_sem,c0,c1,c2,c3,c4,c5,c6]) rfl ⟨_,F',rfl,hX,hP⟩
theorem wr2_CT (w:World):CT kN kU (fun _ => .done 0#64) noF (.func (.func 121) #[] #[]) w:=
 ⟨_,_,rfl,enters_of Tryz.func121 (by kernel_rfl) rfl,fun _ w' _ => wr2_PT w'⟩
theorem wr1_PT (y:BitVec 64) (a:Int) (B1:Nat) (w:World)  (k1:w.heap[B1]? = some (.cells #[.int .u64 (U y)] 40 (0,0))) :
  Calls Tryz.prog 118 #[.int .i64 a,.pointer (some ⟨B1,0,none⟩)] w (RetP (PT kU (wrtT a y)) noF w):=by
 have qk1:=heap_lt k1
 have d1_0:=cell_at (o:=0) k1 rfl
 have e1:=cell_lt d1_0
 replace k1:=Lib.hid k1
 go_enter Tryz.func118,Tryz.ntmps118
 go_wp2_with (go_at_call 120;refine Hid.out ?_)
 refine Lib.hid ?_
 have ⟨hE,hb0,hW⟩:=al1 w (.cells #[.int .u64 0,.int .i64 0,.int .i64 0,.int .u64 0,.int .u64 0,.nilFunc,.pointer none] 208)
 generalize (w.alloc (.cells #[.int .u64 0,.int .i64 0,.int .i64 0,.int .u64 0,.int .u64 0,.nilFunc,.pointer none] 208)) = W at hE hb0 hW ⊢
 replace k1:=(hE.block _ (heap_lt k1.out)).trans k1.out
 clear hW
 clear d1_0 e1
 refine (set_PT a y W).mono ?_
 rintro e w1 ⟨v1,F1,rfl,hx,hp1,hbn1,hsub⟩
 have hn1:¬ F1 (w.heap.size):=fun h => (hsub _ h).elim (fun h => h) fun h => by have:=heap_lt hb0;omega
 have hs1:∀ j,F1 j → noF j ∨ w.heap.size ≤ j:=fun j hj => (hsub j hj).imp_right fun h => Nat.le_trans hE.size h
 replace hE:=ext_trans hE hx
 replace hb0:=(hx.block _ (heap_lt hb0)).trans hb0
 replace k1:=(hx.block _ (heap_lt k1)).trans k1
 clear hx hsub
 replace hE:=Lib.hid hE
 replace hb0:=Lib.hid hb0
 replace k1:=Lib.hid k1
 replace hp1:=Lib.hid hp1
 replace hbn1:=Lib.hid hbn1
 replace hs1:=Lib.hid hs1
 replace hn1:=Lib.hid hn1
 go_wp2_with (go_at_call 119;refine Hid.out ?_)
 refine Lib.hid ?_
 replace hE:=hE.out
 replace hb0:=hb0.out
 replace k1:=k1.out
 replace hp1:=hp1.out
 replace hbn1:=hbn1.out
 replace hs1:=hs1.out
 replace hn1:=hn1.out
 refine (then_NU _ _ F1 noF v1 _ w1 hp1 (wr2_CT _) hbn1 (bnd_no _)).mono ?_
 rintro e w' hR
 obtain ⟨v',F',rfl,hX,hp,hbn,hsub,hnF,hbq⟩:=hR.tail (G:=noF) (w.heap.size) hE (heap_lt hb0) (fun h => by rcases h with h | h;exact hn1 h;exact h) (fun j h => by rcases h with h | h;exact (hs1 j h).imp_left False.elim;exact h.elim)
 have hbx:=hbq.trans hb0
 clear hbq hR
 clear hE hb0 k1 hp1 hbn1 hs1 hn1
 obtain ⟨y,a2,fn2,rfl,HFN,HX⟩:=tlU hp hX hbx hbn hsub hnF (by omega)
 obtain ⟨c0,c1,c2,c3,c4,c5,c6,cz,ll⟩:=sev_of hbx
 clear hX hbx hp hbn hsub hnF
 rcases HFN.out with rfl | ⟨g',caps',rfl⟩
 all_goals
  go_wp2
  clear c0 c1 c2 c3 c4 c5 c6 cz ll
  obtain ⟨hX,hB,hP⟩:=HX.out
  clear HX
  generalize (World.setCell _ (⟨w.heap.size,6,none⟩ : Addr) _) = Z at hX hB hP ⊢
  obtain ⟨c0,c1,c2,c3,c4,c5,c6,cz,ll⟩:=sev_of hB
  exact bodyPost_ret (by simp only [results,Tryz.results118,go_sem];simp [go_sem,c0,c1,c2,c3,c4,c5,c6]) rfl ⟨_,F',rfl,hX,hP⟩
theorem wr1_CT (y:BitVec 64) (B1:Nat) (w:World)  (k1:w.heap[B1]? = some (.cells #[.int .u64 (U y)] 40 (0,0)))  :
  CT kI kU (fun a => wrtT a y) (fun j => j = B1) (.func (.func 118) #[] #[.pointer (some ⟨B1,0,none⟩)]) w:=by
 refine ⟨_,_,rfl,enters_of Tryz.func118 (by kernel_rfl) rfl,fun x9 w' ha => ?_⟩
 exact (wr1_PT y x9 B1 w' ((ha B1 (rfl)).trans k1)).mono fun _ _ h => h.mono fun j h => h.elim
theorem cwrite_PT (s:Se) (x:BitVec 64) (fd:Int) (y:BitVec 64) (w:World)   :
  Calls Tryz.prog 50 #[seV s,.int .u64 (U x),.int .i64 fd,.int .u64 (U y)] w (RetP (PT kR (lookT s x fd fun a => wrtT a y)) noF w):=by
 go_enter Tryz.func50,Tryz.ntmps50
 go_wp2_with (go_at_call 116;refine Hid.out ?_)
 refine Lib.hid ?_
 have ⟨hE,hb0,hb1,hb2,hW⟩:=al3 w (.cells #[.int .i64 s.p.n,.int .i64 s.p.t,.int .i64 s.p.r,.int .i64 s.p.d,.int .i64 s.p.b,.int .i64 s.p.g,.int .i64 s.tn,.int .i64 s.th] 82) (.cells #[.int .u64 (U y)] 40) (.cells #[.int .i64 0,.int .u64 0,.int .i64 0,.int .i64 0,.int .u64 0,.int .u64 0,.nilFunc,.pointer none] 99)
 generalize (((w.alloc (.cells #[.int .i64 s.p.n,.int .i64 s.p.t,.int .i64 s.p.r,.int .i64 s.p.d,.int .i64 s.p.b,.int .i64 s.p.g,.int .i64 s.tn,.int .i64 s.th] 82)).alloc (.cells #[.int .u64 (U y)] 40)).alloc (.cells #[.int .i64 0,.int .u64 0,.int .i64 0,.int .i64 0,.int .u64 0,.int .u64 0,.nilFunc,.pointer none] 99)) = W at hE hb0 hb1 hb2 hW ⊢
 clear hW
 refine (look_PT s x fd (fun a => wrtT a y) (fun j => j = w.heap.size+1) _ W (wr1_CT y _ _ hb1) (fun j h => by subst h;exact heap_lt hb1)).mono ?_
 rintro e w' hR
 obtain ⟨v',F',rfl,hX,hp,hbn,hsub,hnF,hbq⟩:=hR.tail (G:=noF) (w.heap.size+1+1) hE (heap_lt hb2) (fun h => by omega) (fun j h => by exact .inr (by omega))
 have hbx:=hbq.trans hb2
 clear hbq hR
 clear hE hb0 hb1 hb2
 obtain ⟨y0,y1,a2,fn2,rfl,HFN,HX⟩:=tlR hp hX hbx hbn hsub hnF (by omega)
 obtain ⟨c0,c1,c2,c3,c4,c5,c6,c7,cz,ll⟩:=eit_of hbx
 clear hX hbx hp hbn hsub hnF
 rcases HFN.out with rfl | ⟨g',caps',rfl⟩
 all_goals
  go_wp2
  clear c0 c1 c2 c3 c4 c5 c6 c7 cz ll
  obtain ⟨hX,hB,hP⟩:=HX.out
  clear HX
  generalize (World.setCell _ (⟨w.heap.size+1+1,7,none⟩ : Addr) _) = Z at hX hB hP ⊢
  obtain ⟨c0,c1,c2,c3,c4,c5,c6,c7,cz,ll⟩:=eit_of hB
  exact bodyPost_ret (by simp only [results,Tryz.results50,go_sem];simp [go_sem,c0,c1,c2,c3,c4,c5,c6,c7]) rfl ⟨_,F',rfl,hX,hP⟩
end Go.Proofs.YthjklbonebnekaaGreat

