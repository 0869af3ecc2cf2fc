/-
  What the call of Mine, and the reference's, come to. Conditions: those of each theorem.
-/
import Derived.Test.YthjklbonebnekaaGreatGaj
import Derived.Test.YthjklbonebnekaaGreatGao
import Derived.Test.YthjklbonebnekaaGreatGaw
import Derived.Test.YthjklbonebnekaaGreatGba
import Derived.Test.YthjklbonebnekaaGreatGbc
import Derived.Laws.StructEq
set_option maxRecDepth 8000
set_option maxHeartbeats 4000000
namespace Go.Proofs.YthjklbonebnekaaGreat
open Go Go.RowKit
theorem mineH_no (x:BitVec 64) (t n:Int) (h:¬ isMine x t n):mineH x t n = ⟨0,0,0⟩:=by unfold mineH;rw [if_neg h]
theorem mineH_yes (x:BitVec 64) (t n:Int) (h:isMine x t n):mineH x t n = hnN x:=by unfold mineH;rw [if_pos h]
theorem hof_is (x:BitVec 64) (s:Hn) (r:Bool) (h:Hid (ofH x = s ∧ decide (isH x) = r)) (w:World):Calls Tryz.prog 239 #[.int .u64 (U x)] w (Ret (.tuple #[hnV s,.bool r]) w):=by
 rw [← h.out.1,← h.out.2]
 exact hof_any x w
theorem mine_none (x:BitVec 64) (s:Hn) (t n:Int) (HO:Hid (ofH x = s ∧ decide (isH x) = false)) (w:World):Calls Tryz.prog 196 #[.int .u64 (U x),.int .i64 t,.int .i64 n] w (Ret (.tuple #[hnV ⟨0,0,0⟩,.bool false]) w):=by
 go_enter Tryz.func196,Tryz.ntmps196
 go_wp2_with (go_at_call 239;refine (hof_is x s false HO _).mono ?_;rintro e w' hr;obtain ⟨rfl,s1,rfl⟩:=hr.over;clear hr)
 have HE9:=Lib.hid (ext_alloc (.cells #[.int .i64 s.i,.int .i64 s.g,.int .i64 s.t] 107) (ext_set (p:=⟨w.heap.size,2,none⟩) (.int .i64 0) (Nat.le_refl _) (ext_set (p:=⟨w.heap.size,1,none⟩) (.int .i64 0) (Nat.le_refl _) (ext_set (p:=⟨w.heap.size,0,none⟩) (.int .i64 0) (Nat.le_refl _) (ext_over s1 (ext_alloc (.cells #[.int .i64 0,.int .i64 0,.int .i64 0] 107) (ext_refl w)))))))
 have HR9:Hid (Made w w.heap.size #[.int .i64 0,.int .i64 0,.int .i64 0] 107 (((((over (w.alloc (.cells #[.int .i64 0,.int .i64 0,.int .i64 0] 107)) s1).setCell ⟨w.heap.size,0,none⟩ (.int .i64 0)).setCell ⟨w.heap.size,1,none⟩ (.int .i64 0)).setCell ⟨w.heap.size,2,none⟩ (.int .i64 0)).alloc (.cells #[.int .i64 s.i,.int .i64 s.g,.int .i64 s.t] 107))):=Lib.hid ((((((Made.mk #[.int .i64 0,.int .i64 0,.int .i64 0] 107 (ext_refl w)).over s1).set 0 (.int .i64 0)).set 1 (.int .i64 0)).set 2 (.int .i64 0)).alloc (.cells #[.int .i64 s.i,.int .i64 s.g,.int .i64 s.t] 107))
 generalize (((((over (w.alloc (.cells #[.int .i64 0,.int .i64 0,.int .i64 0] 107)) s1).setCell ⟨w.heap.size,0,none⟩ (.int .i64 0)).setCell ⟨w.heap.size,1,none⟩ (.int .i64 0)).setCell ⟨w.heap.size,2,none⟩ (.int .i64 0)).alloc (.cells #[.int .i64 s.i,.int .i64 s.g,.int .i64 s.t] 107)) = Z9 at HE9 HR9 ⊢
 have z0:=cell_at (o:=0) HR9.out.1 rfl
 have z1:=cell_at (o:=1) HR9.out.1 rfl
 have z2:=cell_at (o:=2) HR9.out.1 rfl
 simp only [List.getElem_toArray,List.getElem_cons_zero,List.getElem_cons_succ] at z0 z1 z2
 exact bodyPost_ret (v:=.tuple #[hnV ⟨0,0,0⟩,.bool false]) (by simp [results,Tryz.results196,go_sem,z0,z1,z2]) rfl (Ret.mk HE9.out)
theorem mine_other (x:BitVec 64) (s:Hn) (t n:Int) (HO:Hid (ofH x = s ∧ decide (isH x) = true)) (k1:(s.t != t) = true) (w:World):Calls Tryz.prog 196 #[.int .u64 (U x),.int .i64 t,.int .i64 n] w (Ret (.tuple #[hnV ⟨0,0,0⟩,.bool false]) w):=by
 go_enter Tryz.func196,Tryz.ntmps196
 go_wp2_with (go_at_call 239;refine (hof_is x s true HO _).mono ?_;rintro e w' hr;obtain ⟨rfl,s1,rfl⟩:=hr.over;clear hr)
 have HE9:=Lib.hid (ext_alloc (.cells #[.int .i64 s.i,.int .i64 s.g,.int .i64 s.t] 107) (ext_set (p:=⟨w.heap.size,2,none⟩) (.int .i64 0) (Nat.le_refl _) (ext_set (p:=⟨w.heap.size,1,none⟩) (.int .i64 0) (Nat.le_refl _) (ext_set (p:=⟨w.heap.size,0,none⟩) (.int .i64 0) (Nat.le_refl _) (ext_over s1 (ext_alloc (.cells #[.int .i64 0,.int .i64 0,.int .i64 0] 107) (ext_refl w)))))))
 have HR9:Hid (Made w w.heap.size #[.int .i64 0,.int .i64 0,.int .i64 0] 107 (((((over (w.alloc (.cells #[.int .i64 0,.int .i64 0,.int .i64 0] 107)) s1).setCell ⟨w.heap.size,0,none⟩ (.int .i64 0)).setCell ⟨w.heap.size,1,none⟩ (.int .i64 0)).setCell ⟨w.heap.size,2,none⟩ (.int .i64 0)).alloc (.cells #[.int .i64 s.i,.int .i64 s.g,.int .i64 s.t] 107))):=Lib.hid ((((((Made.mk #[.int .i64 0,.int .i64 0,.int .i64 0] 107 (ext_refl w)).over s1).set 0 (.int .i64 0)).set 1 (.int .i64 0)).set 2 (.int .i64 0)).alloc (.cells #[.int .i64 s.i,.int .i64 s.g,.int .i64 s.t] 107))
 generalize (((((over (w.alloc (.cells #[.int .i64 0,.int .i64 0,.int .i64 0] 107)) s1).setCell ⟨w.heap.size,0,none⟩ (.int .i64 0)).setCell ⟨w.heap.size,1,none⟩ (.int .i64 0)).setCell ⟨w.heap.size,2,none⟩ (.int .i64 0)).alloc (.cells #[.int .i64 s.i,.int .i64 s.g,.int .i64 s.t] 107)) = Z9 at HE9 HR9 ⊢
 have z0:=cell_at (o:=0) HR9.out.1 rfl
 have z1:=cell_at (o:=1) HR9.out.1 rfl
 have z2:=cell_at (o:=2) HR9.out.1 rfl
 simp only [List.getElem_toArray,List.getElem_cons_zero,List.getElem_cons_succ] at z0 z1 z2
 exact bodyPost_ret (v:=.tuple #[hnV ⟨0,0,0⟩,.bool false]) (by simp [results,Tryz.results196,go_sem,z0,z1,z2]) rfl (Ret.mk HE9.out)
theorem mine_far (x:BitVec 64) (s:Hn) (t n:Int) (HO:Hid (ofH x = s ∧ decide (isH x) = true)) (k1:(s.t != t) = false) (k2:n ≤ s.i) (w:World):Calls Tryz.prog 196 #[.int .u64 (U x),.int .i64 t,.int .i64 n] w (Ret (.tuple #[hnV ⟨0,0,0⟩,.bool false]) w):=by
 go_enter Tryz.func196,Tryz.ntmps196
 go_wp2_with (go_at_call 239;refine (hof_is x s true HO _).mono ?_;rintro e w' hr;obtain ⟨rfl,s1,rfl⟩:=hr.over;clear hr)
 have HE9:=Lib.hid (ext_alloc (.cells #[.int .i64 s.i,.int .i64 s.g,.int .i64 s.t] 107) (ext_set (p:=⟨w.heap.size,2,none⟩) (.int .i64 0) (Nat.le_refl _) (ext_set (p:=⟨w.heap.size,1,none⟩) (.int .i64 0) (Nat.le_refl _) (ext_set (p:=⟨w.heap.size,0,none⟩) (.int .i64 0) (Nat.le_refl _) (ext_over s1 (ext_alloc (.cells #[.int .i64 0,.int .i64 0,.int .i64 0] 107) (ext_refl w)))))))
 have HR9:Hid (Made w w.heap.size #[.int .i64 0,.int .i64 0,.int .i64 0] 107 (((((over (w.alloc (.cells #[.int .i64 0,.int .i64 0,.int .i64 0] 107)) s1).setCell ⟨w.heap.size,0,none⟩ (.int .i64 0)).setCell ⟨w.heap.size,1,none⟩ (.int .i64 0)).setCell ⟨w.heap.size,2,none⟩ (.int .i64 0)).alloc (.cells #[.int .i64 s.i,.int .i64 s.g,.int .i64 s.t] 107))):=Lib.hid ((((((Made.mk #[.int .i64 0,.int .i64 0,.int .i64 0] 107 (ext_refl w)).over s1).set 0 (.int .i64 0)).set 1 (.int .i64 0)).set 2 (.int .i64 0)).alloc (.cells #[.int .i64 s.i,.int .i64 s.g,.int .i64 s.t] 107))
 generalize (((((over (w.alloc (.cells #[.int .i64 0,.int .i64 0,.int .i64 0] 107)) s1).setCell ⟨w.heap.size,0,none⟩ (.int .i64 0)).setCell ⟨w.heap.size,1,none⟩ (.int .i64 0)).setCell ⟨w.heap.size,2,none⟩ (.int .i64 0)).alloc (.cells #[.int .i64 s.i,.int .i64 s.g,.int .i64 s.t] 107)) = Z9 at HE9 HR9 ⊢
 have z0:=cell_at (o:=0) HR9.out.1 rfl
 have z1:=cell_at (o:=1) HR9.out.1 rfl
 have z2:=cell_at (o:=2) HR9.out.1 rfl
 simp only [List.getElem_toArray,List.getElem_cons_zero,List.getElem_cons_succ] at z0 z1 z2
 exact bodyPost_ret (v:=.tuple #[hnV ⟨0,0,0⟩,.bool false]) (by simp [results,Tryz.results196,go_sem,z0,z1,z2]) rfl (Ret.mk HE9.out)
theorem mine_yes (x:BitVec 64) (s:Hn) (t n:Int) (HO:Hid (ofH x = s ∧ decide (isH x) = true)) (k1:(s.t != t) = false) (k2:decide (n ≤ s.i) = false) (w:World):Calls Tryz.prog 196 #[.int .u64 (U x),.int .i64 t,.int .i64 n] w (Ret (.tuple #[hnV s,.bool true]) w):=by
 go_enter Tryz.func196,Tryz.ntmps196
 go_wp2_with (go_at_call 239;refine (hof_is x s true HO _).mono ?_;rintro e w' hr;obtain ⟨rfl,s1,rfl⟩:=hr.over;clear hr)
 have HE9:=Lib.hid (ext_alloc (.cells #[.int .i64 s.i,.int .i64 s.g,.int .i64 s.t] 107) (ext_set (p:=⟨w.heap.size,2,none⟩) (.int .i64 s.t) (Nat.le_refl _) (ext_set (p:=⟨w.heap.size,1,none⟩) (.int .i64 s.g) (Nat.le_refl _) (ext_set (p:=⟨w.heap.size,0,none⟩) (.int .i64 s.i) (Nat.le_refl _) (ext_over s1 (ext_alloc (.cells #[.int .i64 0,.int .i64 0,.int .i64 0] 107) (ext_refl w)))))))
 have HR9:Hid (Made w w.heap.size #[.int .i64 s.i,.int .i64 s.g,.int .i64 s.t] 107 (((((over (w.alloc (.cells #[.int .i64 0,.int .i64 0,.int .i64 0] 107)) s1).setCell ⟨w.heap.size,0,none⟩ (.int .i64 s.i)).setCell ⟨w.heap.size,1,none⟩ (.int .i64 s.g)).setCell ⟨w.heap.size,2,none⟩ (.int .i64 s.t)).alloc (.cells #[.int .i64 s.i,.int .i64 s.g,.int .i64 s.t] 107))):=Lib.hid ((((((Made.mk #[.int .i64 0,.int .i64 0,.int .i64 0] 107 (ext_refl w)).over s1).set 0 (.int .i64 s.i)).set 1 (.int .i64 s.g)).set 2 (.int .i64 s.t)).alloc (.cells #[.int .i64 s.i,.int .i64 s.g,.int .i64 s.t] 107))
 generalize (((((over (w.alloc (.cells #[.int .i64 0,.int .i64 0,.int .i64 0] 107)) s1).setCell ⟨w.heap.size,0,none⟩ (.int .i64 s.i)).setCell ⟨w.heap.size,1,none⟩ (.int .i64 s.g)).setCell ⟨w.heap.size,2,none⟩ (.int .i64 s.t)).alloc (.cells #[.int .i64 s.i,.int .i64 s.g,.int .i64 s.t] 107)) = Z9 at HE9 HR9 ⊢
 have z0:=cell_at (o:=0) HR9.out.1 rfl
 have z1:=cell_at (o:=1) HR9.out.1 rfl
 have z2:=cell_at (o:=2) HR9.out.1 rfl
 simp only [List.getElem_toArray,List.getElem_cons_zero,List.getElem_cons_succ] at z0 z1 z2
 exact bodyPost_ret (v:=.tuple #[hnV s,.bool true]) (by simp [results,Tryz.results196,go_sem,z0,z1,z2]) rfl (Ret.mk HE9.out)
theorem mine_any (x:BitVec 64) (t n:Int) (w:World):Calls Tryz.prog 196 #[.int .u64 (U x),.int .i64 t,.int .i64 n] w (Ret (.tuple #[hnV (mineH x t n),.bool (decide (isMine x t n))]) w):=by
 by_cases h:isH x
 ·have e:=ofH_yes x h
  by_cases c1:(hnN x).t = t
  ·by_cases c2:(hnN x).i < n
   ·have hm:isMine x t n:=⟨h,c1,c2⟩
    rw [mineH_yes x t n hm,decide_eq_true hm]
    exact mine_yes x _ t n (Lib.hid ⟨e,decide_eq_true h⟩) (bne_eq_false_iff_eq.2 c1) (decide_eq_false (by omega)) w
   ·have hm:¬ isMine x t n:=fun k => c2 k.2.2
    rw [mineH_no x t n hm,decide_eq_false hm]
    exact mine_far x _ t n (Lib.hid ⟨e,decide_eq_true h⟩) (bne_eq_false_iff_eq.2 c1) (by omega) w
  ·have hm:¬ isMine x t n:=fun k => c1 k.2.1
   rw [mineH_no x t n hm,decide_eq_false hm]
   exact mine_other x _ t n (Lib.hid ⟨e,decide_eq_true h⟩) (bne_iff_ne.2 c1) w
 ·have hm:¬ isMine x t n:=fun k => h k.1
  rw [mineH_no x t n hm,decide_eq_false hm]
  exact mine_none x _ t n (Lib.hid ⟨rfl,decide_eq_false h⟩) w
theorem doneE_PT (x:Int) (w:World):Calls Tryz.prog 176 #[.agg #[.int .i64 x,.int .u64 0]] w (RetP (PT kR (.done ⟨x,0#64⟩)) noF w):=by
 have h:=doneR_PT ⟨x,0#64⟩ w
 unfold rzV at h
 simp only [U_0] at h
 exact h
theorem fails_PT (x:Int) (w:World)   :
  Calls Tryz.prog 111 #[.int .i64 x] w (RetP (PT kR (.done ⟨x,0#64⟩)) noF w):=by
 go_enter Tryz.func111,Tryz.ntmps111
 go_wp2_with (go_at_call 176;refine Hid.out ?_)
 refine Lib.hid ?_
 have ⟨hE,hb0,hW⟩:=al1 w (.cells #[.int .i64 0,.int .u64 0,.int .i64 0,.int .i64 0,.int .u64 0,.int .u64 0,.nilFunc,.pointer none] 99)
 generalize (w.alloc (.cells #[.int .i64 0,.int .u64 0,.int .i64 0,.int .i64 0,.int .u64 0,.int .u64 0,.nilFunc,.pointer none] 99)) = W at hE hb0 hW ⊢
 clear hW
 refine (doneE_PT x W).mono ?_
 rintro e w' hR
 obtain ⟨v',F',rfl,hX,hp,hbn,hsub,hnF,hbq⟩:=hR.tail (G:=noF) (w.heap.size) hE (heap_lt hb0) (fun h => h) (fun _ h => h.elim)
 have hbx:=hbq.trans hb0
 clear hbq hR
 clear hE hb0
 obtain ⟨y0,y1,a2,fn2,rfl,HFN,HX⟩:=tlR hp hX hbx hbn hsub hnF (by omega)
 obtain ⟨c0,c1,c2,c3,c4,c5,c6,c7,cz,ll⟩:=eit_of hbx
 clear hX hbx hp hbn hsub hnF
 rcases HFN.out with rfl | ⟨g',caps',rfl⟩
 all_goals
  go_wp2
  clear c0 c1 c2 c3 c4 c5 c6 c7 cz ll
  obtain ⟨hX,hB,hP⟩:=HX.out
  clear HX
  generalize (World.setCell _ (⟨w.heap.size,7,none⟩ : Addr) _) = Z at hX hB hP ⊢
  obtain ⟨c0,c1,c2,c3,c4,c5,c6,c7,cz,ll⟩:=eit_of hB
  exact bodyPost_ret (by simp only [results,Tryz.results111,go_sem];simp [go_sem,c0,c1,c2,c3,c4,c5,c6,c7]) rfl ⟨_,F',rfl,hX,hP⟩
theorem tells_PT (x:BitVec 64) (w:World)   :
  Calls Tryz.prog 114 #[.int .u64 (U x)] w (RetP (PT kR (.done ⟨0,x⟩)) noF w):=by
 go_enter Tryz.func114,Tryz.ntmps114
 go_wp2_with (go_at_call 176;refine Hid.out ?_)
 refine Lib.hid ?_
 have ⟨hE,hb0,hW⟩:=al1 w (.cells #[.int .i64 0,.int .u64 0,.int .i64 0,.int .i64 0,.int .u64 0,.int .u64 0,.nilFunc,.pointer none] 99)
 generalize (w.alloc (.cells #[.int .i64 0,.int .u64 0,.int .i64 0,.int .i64 0,.int .u64 0,.int .u64 0,.nilFunc,.pointer none] 99)) = W at hE hb0 hW ⊢
 clear hW
 refine (doneR_PT ⟨0,x⟩ W).mono ?_
 rintro e w' hR
 obtain ⟨v',F',rfl,hX,hp,hbn,hsub,hnF,hbq⟩:=hR.tail (G:=noF) (w.heap.size) hE (heap_lt hb0) (fun h => h) (fun _ h => h.elim)
 have hbx:=hbq.trans hb0
 clear hbq hR
 clear hE hb0
 obtain ⟨y0,y1,a2,fn2,rfl,HFN,HX⟩:=tlR hp hX hbx hbn hsub hnF (by omega)
 obtain ⟨c0,c1,c2,c3,c4,c5,c6,c7,cz,ll⟩:=eit_of hbx
 clear hX hbx hp hbn hsub hnF
 rcases HFN.out with rfl | ⟨g',caps',rfl⟩
 all_goals
  go_wp2
  clear c0 c1 c2 c3 c4 c5 c6 c7 cz ll
  obtain ⟨hX,hB,hP⟩:=HX.out
  clear HX
  generalize (World.setCell _ (⟨w.heap.size,7,none⟩ : Addr) _) = Z at hX hB hP ⊢
  obtain ⟨c0,c1,c2,c3,c4,c5,c6,c7,cz,ll⟩:=eit_of hB
  exact bodyPost_ret (by simp only [results,Tryz.results114,go_sem];simp [go_sem,c0,c1,c2,c3,c4,c5,c6,c7]) rfl ⟨_,F',rfl,hX,hP⟩
theorem bad_PT  (w:World)   :
  Calls Tryz.prog 124 #[] w (RetP (PT kR (.done ⟨3,0#64⟩)) noF w):=by
 go_enter Tryz.func124,Tryz.ntmps124
 go_wp2_with (go_at_call 111;refine Hid.out ?_)
 refine Lib.hid ?_
 have ⟨hE,hb0,hW⟩:=al1 w (.cells #[.int .i64 0,.int .u64 0,.int .i64 0,.int .i64 0,.int .u64 0,.int .u64 0,.nilFunc,.pointer none] 99)
 generalize (w.alloc (.cells #[.int .i64 0,.int .u64 0,.int .i64 0,.int .i64 0,.int .u64 0,.int .u64 0,.nilFunc,.pointer none] 99)) = W at hE hb0 hW ⊢
 clear hW
 refine (fails_PT 3 W).mono ?_
 rintro e w' hR
 obtain ⟨v',F',rfl,hX,hp,hbn,hsub,hnF,hbq⟩:=hR.tail (G:=noF) (w.heap.size) hE (heap_lt hb0) (fun h => h) (fun _ h => h.elim)
 have hbx:=hbq.trans hb0
 clear hbq hR
 clear hE hb0
 obtain ⟨y0,y1,a2,fn2,rfl,HFN,HX⟩:=tlR hp hX hbx hbn hsub hnF (by omega)
 obtain ⟨c0,c1,c2,c3,c4,c5,c6,c7,cz,ll⟩:=eit_of hbx
 clear hX hbx hp hbn hsub hnF
 rcases HFN.out with rfl | ⟨g',caps',rfl⟩
 all_goals
  go_wp2
  clear c0 c1 c2 c3 c4 c5 c6 c7 cz ll
  obtain ⟨hX,hB,hP⟩:=HX.out
  clear HX
  generalize (World.setCell _ (⟨w.heap.size,7,none⟩ : Addr) _) = Z at hX hB hP ⊢
  obtain ⟨c0,c1,c2,c3,c4,c5,c6,c7,cz,ll⟩:=eit_of hB
  exact bodyPost_ret (by simp only [results,Tryz.results124,go_sem];simp [go_sem,c0,c1,c2,c3,c4,c5,c6,c7]) rfl ⟨_,F',rfl,hX,hP⟩
theorem bad_AR (w:World):AR badT noF (.func (.func 124) #[] #[]) w:=
 ⟨_,_,rfl,enters_of Tryz.func124 (by kernel_rfl) rfl,fun w' _ => bad_PT w'⟩
theorem cupTo_any (n most:Int) (w:World):Calls Tryz.prog 108 #[.int .i64 n,.int .i64 most] w (Ret (.bool (upF n most)) w):=by
 by_cases h1:0 ≤ n
 ·by_cases h2:n ≤ most
  ·rw [upF_yes h1 h2]
   go_enter Tryz.func108,Tryz.ntmps108
   go_wp2
   go_ret
   exact Ret.mk (by repeat (first | exact ext_refl _ | apply ext_over | apply ext_alloc | (refine ext_set _ ?_ ?_;exact Nat.le_refl _)))
  ·rw [upF_no fun h => h2 h.2]
   have h3:decide (n ≤ most) = false:=by simpa using h2
   clear h2
   go_enter Tryz.func108,Tryz.ntmps108
   go_wp2
   go_ret
   exact Ret.mk (by repeat (first | exact ext_refl _ | apply ext_over | apply ext_alloc | (refine ext_set _ ?_ ?_;exact Nat.le_refl _)))
 ·rw [upF_no fun h => h1 h.1]
  go_enter Tryz.func108,Tryz.ntmps108
  go_wp2
  go_ret
  exact Ret.mk (by repeat (first | exact ext_refl _ | apply ext_over | apply ext_alloc | (refine ext_set _ ?_ ?_;exact Nat.le_refl _)))
theorem cgr_any (i g t:Int) (w:World):Calls Tryz.prog 198 #[.agg #[.int .i64 i,.int .i64 g,.int .i64 t]] w (Ret (.agg #[.int .i64 g,.int .i64 1,.int .i64 0]) w):=by
 go_enter Tryz.func198,Tryz.ntmps198
 go_wp2_with (go_at_call 62;refine (live_any ⟨g,0,0⟩ 0 _).mono ?_;rintro e w' ⟨rfl,hx⟩;refine Hid.out ?_)
 refine Lib.hid ?_
 have hblk:=(hx.block (w.heap.size+1) (by simp)).trans (heap_at (w.alloc (.cells #[.int .i64 i,.int .i64 g,.int .i64 t] 107)) _ _ (by simp))
 have hE:Ext w w':=by
  refine ext_trans ?_ hx
  repeat (first | exact ext_refl _ | apply ext_alloc)
 have hX:=put3_ext (b:=w.heap.size+1) (.int .i64 g) (.int .i64 1) (.int .i64 0) hE (by omega)
 have hB:=put3_block (.int .i64 g) (.int .i64 1) (.int .i64 0) hblk
 have c0:=cell_at (o:=0) hblk rfl
 have c1:=cell_at (o:=1) hblk rfl
 have c2:=cell_at (o:=2) hblk rfl
 have cz:∀ o,w'.frozen? ⟨w.heap.size+1,o,none⟩ = false:=fun _ => free_at hblk
 have ll:=heap_lt hblk
 rw [put3] at hX hB
 have HX:=Lib.hid hX
 have HB:=Lib.hid hB
 clear hX hB hx hE hblk
 go_wp2
 clear c0 c1 c2 cz ll
 replace HX:=HX.out
 replace HB:=HB.out
 generalize (World.setCell _ (⟨w.heap.size+1,2,none⟩ : Addr) _) = Z at HB HX ⊢
 have c0:=cell_at (o:=0) HB rfl
 have c1:=cell_at (o:=1) HB rfl
 have c2:=cell_at (o:=2) HB rfl
 exact bodyPost_ret (by simp only [results,Tryz.results198,go_sem];simp [go_sem,c0,c1,c2]) rfl (Ret.mk HX)
theorem cmine_any (s:Se) (x:BitVec 64) (h:Hn) (r:Bool) (hm:Hid (mineH x s.tn s.p.n = h)) (hr:Hid (decide (isMine x s.tn s.p.n) = r)) (w:World):Calls Tryz.prog 123 #[seV s,.int .u64 (U x)] w (Ret (.tuple #[hnV h,.bool r]) w):=by
 obtain ⟨i,g,t⟩:=h
 have hC:∀ W,Calls Tryz.prog 196 #[.int .u64 (U x),.int .i64 s.tn,.int .i64 s.p.n] W (Ret (.tuple #[.agg #[.int .i64 i,.int .i64 g,.int .i64 t],.bool r]) W):=fun W => by
  have h:=mine_any x s.tn s.p.n W
  rw [hm.out,hr.out] at h
  exact h
 replace hC:=Lib.hid hC
 show Calls Tryz.prog 123 #[seV s,.int .u64 (U x)] w (Ret (.tuple #[.agg #[.int .i64 i,.int .i64 g,.int .i64 t],.bool r]) w)
 go_enter Tryz.func123,Tryz.ntmps123
 go_wp2_with (go_at_call 196;refine (hC.out _).mono ?_;rintro e w' ⟨rfl,hx⟩;refine Hid.out ?_)
 refine Lib.hid ?_
 have hblk:=(hx.block (w.heap.size+1) (by simp)).trans (heap_at (w.alloc (.cells #[.int .i64 s.p.n,.int .i64 s.p.t,.int .i64 s.p.r,.int .i64 s.p.d,.int .i64 s.p.b,.int .i64 s.p.g,.int .i64 s.tn,.int .i64 s.th] 82)) _ _ (by simp))
 have hE:Ext w w':=by
  refine ext_trans ?_ hx
  repeat (first | exact ext_refl _ | apply ext_alloc)
 have hX:=put3_ext (b:=w.heap.size+1) (.int .i64 i) (.int .i64 g) (.int .i64 t) hE (by omega)
 have hB:=put3_block (.int .i64 i) (.int .i64 g) (.int .i64 t) hblk
 have c0:=cell_at (o:=0) hblk rfl
 have c1:=cell_at (o:=1) hblk rfl
 have c2:=cell_at (o:=2) hblk rfl
 have cz:∀ o,w'.frozen? ⟨w.heap.size+1,o,none⟩ = false:=fun _ => free_at hblk
 have ll:=heap_lt hblk
 rw [put3] at hX hB
 have HX:=Lib.hid hX
 have HB:=Lib.hid hB
 clear hX hB hx hE hblk
 go_wp2
 clear c0 c1 c2 cz ll
 replace HX:=HX.out
 replace HB:=HB.out
 generalize (World.setCell _ (⟨w.heap.size+1,2,none⟩ : Addr) _) = Z at HB HX ⊢
 have c0:=cell_at (o:=0) HB rfl
 have c1:=cell_at (o:=1) HB rfl
 have c2:=cell_at (o:=2) HB rfl
 exact bodyPost_ret (by simp only [results,Tryz.results123,go_sem];simp [go_sem,c0,c1,c2]) rfl (Ret.mk HX)
theorem seat_yes (s:Se) (k:s.ok) (w:World):Calls Tryz.prog 43 #[seV s] w (Ret (.bool true) w):=by
 obtain ⟨p,tn,th⟩:=s
 obtain ⟨h1,h2,h3,h4,h5⟩:=k
 dsimp only at h1 h2 h3 h4 h5
 have HP:=Lib.hid (fun W => formed_any p W true (Lib.hid ⟨fun _ => h1,fun _ => rfl⟩))
 have hb:1 ≤ p.t ∧ p.t ≤ 64:=by unfold Pl.ok at h1;omega
 have hw:wrap64 (p.t - 1) = p.t - 1:=by unfold wrap64;omega
 have e1:upF tn 63 = true:=upF_yes h2 h3
 have e2:upF th (p.t - 1) = true:=upF_yes h4 h5
 clear h1 h2 h3 h4 h5
 go_enter Tryz.func43,Tryz.ntmps43
 go_wp2_with (first | (go_at_call 107;refine (HP.out _).mono ?_;rintro e w' hr;obtain ⟨rfl,s1,rfl⟩:=hr.over;clear hr) | (go_at_call 108;refine (cupTo_any _ _ _).mono ?_;rintro e w' hr;obtain ⟨rfl,s1,rfl⟩:=hr.over;clear hr))
 go_ret
 exact Ret.mk (by repeat (first | exact ext_refl _ | apply ext_over | apply ext_alloc | (refine ext_set _ ?_ ?_;exact Nat.le_refl _)))
theorem seat_no (s:Se) (k:¬ s.ok) (w:World):Calls Tryz.prog 43 #[seV s] w (Ret (.bool false) w):=by
 obtain ⟨p,tn,th⟩:=s
 by_cases h1:p.ok
 ·have HP:=Lib.hid (fun W => formed_any p W true (Lib.hid ⟨fun _ => h1,fun _ => rfl⟩))
  have hb:1 ≤ p.t ∧ p.t ≤ 64:=by unfold Pl.ok at h1;omega
  have hw:wrap64 (p.t - 1) = p.t - 1:=by unfold wrap64;omega
  by_cases c2:0 ≤ tn ∧ tn ≤ 63
  ·have e1:upF tn 63 = true:=upF_yes c2.1 c2.2
   have e2:upF th (p.t - 1) = false:=upF_no fun c3 => k ⟨h1,c2.1,c2.2,c3.1,c3.2⟩
   clear h1 c2 k
   go_enter Tryz.func43,Tryz.ntmps43
   go_wp2_with (first | (go_at_call 107;refine (HP.out _).mono ?_;rintro e w' hr;obtain ⟨rfl,s1,rfl⟩:=hr.over;clear hr) | (go_at_call 108;refine (cupTo_any _ _ _).mono ?_;rintro e w' hr;obtain ⟨rfl,s1,rfl⟩:=hr.over;clear hr))
   go_ret
   exact Ret.mk (by repeat (first | exact ext_refl _ | apply ext_over | apply ext_alloc | (refine ext_set _ ?_ ?_;exact Nat.le_refl _)))
  ·have e1:upF tn 63 = false:=upF_no c2
   clear h1 c2 k
   go_enter Tryz.func43,Tryz.ntmps43
   go_wp2_with (first | (go_at_call 107;refine (HP.out _).mono ?_;rintro e w' hr;obtain ⟨rfl,s1,rfl⟩:=hr.over;clear hr) | (go_at_call 108;refine (cupTo_any _ _ _).mono ?_;rintro e w' hr;obtain ⟨rfl,s1,rfl⟩:=hr.over;clear hr))
   go_ret
   exact Ret.mk (by repeat (first | exact ext_refl _ | apply ext_over | apply ext_alloc | (refine ext_set _ ?_ ?_;exact Nat.le_refl _)))
 ·have HP:=Lib.hid (fun W => formed_any p W false (Lib.hid ⟨fun e => (by cases e),fun e => absurd e h1⟩))
  clear h1 k
  go_enter Tryz.func43,Tryz.ntmps43
  go_wp2_with (first | (go_at_call 107;refine (HP.out _).mono ?_;rintro e w' hr;obtain ⟨rfl,s1,rfl⟩:=hr.over;clear hr) | (go_at_call 108;refine (cupTo_any _ _ _).mono ?_;rintro e w' hr;obtain ⟨rfl,s1,rfl⟩:=hr.over;clear hr))
  go_ret
  exact Ret.mk (by repeat (first | exact ext_refl _ | apply ext_over | apply ext_alloc | (refine ext_set _ ?_ ?_;exact Nat.le_refl _)))
end Go.Proofs.YthjklbonebnekaaGreat

