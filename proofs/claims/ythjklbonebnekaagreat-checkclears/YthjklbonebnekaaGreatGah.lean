/-
  What the calls of ask, Get, Set and Try come to, as programs. No conditions.
-/
import Derived.Test.YthjklbonebnekaaGreatGab
import Derived.Test.YthjklbonebnekaaGreatGaf
import Derived.Test.YthjklbonebnekaaGreatGag
set_option maxRecDepth 8000
set_option maxHeartbeats 4000000
namespace Go.Proofs.YthjklbonebnekaaGreat
open Go Go.RowKit
def ldA (at_:Int):Acc:=⟨0,at_,0#64,0#64⟩
def stA (at_:Int) (x:BitVec 64):Acc:=⟨1,at_,x,0#64⟩
def swA (at_:Int) (x y:BitVec 64):Acc:=⟨2,at_,x,y⟩
def getT (at_:Int):Tr (BitVec 64):=.ask (ldA at_) .done
def setT (at_:Int) (x:BitVec 64):Tr Unit:=.ask (stA at_ x) fun _ => .done ()
def tryT (at_:Int) (x y:BitVec 64):Tr Bool:=.ask (swA at_ x y) fun z => .done (z == x)
theorem askT_any (a:Acc) (w:World):Calls Tryz.prog 190 #[.agg #[.int .i64 a.op,.int .i64 a.at_,.int .u64 (U a.a),.int .u64 (U a.b)]] w (Ret (.agg #[.int .u64 0,.int .i64 a.op,.int .i64 a.at_,.int .u64 (U a.a),.int .u64 (U a.b),.func (.func 122) #[] #[],.pointer none]) w):=by
 go_enter Tryz.func190,Tryz.ntmps190
 go_wp2
 exact bodyPost_ret (v:=.agg #[.int .u64 0,.int .i64 a.op,.int .i64 a.at_,.int .u64 (U a.a),.int .u64 (U a.b),.func (.func 122) #[] #[],.pointer none]) (by simp [results,Tryz.results190,go_sem]) rfl (Ret.mk (ext_alloc _ (ext_alloc _ (ext_refl w))))
theorem doneU_PT (x:BitVec 64) (w:World):Calls Tryz.prog 122 #[.int .u64 (U x)] w (RetP (PT kU (.done x)) noF w):=
 (doneU (U x) w).mono fun e w' ⟨h1,h2⟩ => ⟨_,noF,h1,h2,by show _ = kU.S _ _ _;simp [kU,vS,accZ,U_0],bnd_no _,fun _ h => h.elim⟩
theorem doneB_PT (x:Bool) (w:World):Calls Tryz.prog 207 #[.bool x] w (RetP (PT kB (.done x)) noF w):=
 (doneB x w).mono fun e w' ⟨h1,h2⟩ => ⟨_,noF,h1,h2,by show _ = kB.S _ _ _;simp [kB,vS,accZ,U_0],bnd_no _,fun _ h => h.elim⟩
theorem doneI_PT (x:Int) (w:World):Calls Tryz.prog 141 #[.int .i64 x] w (RetP (PT kI (.done x)) noF w):=
 (doneI x w).mono fun e w' ⟨h1,h2⟩ => ⟨_,noF,h1,h2,by show _ = kI.S _ _ _;simp [kI,vS,accZ,U_0],bnd_no _,fun _ h => h.elim⟩
theorem doneN_PT (w:World):Calls Tryz.prog 194 #[.agg #[]] w (RetP (PT kN (.done ())) noF w):=
 (doneN w).mono fun e w' ⟨h1,h2⟩ => ⟨_,noF,h1,h2,by show _ = kN.S _ _ _;simp [kN,vS0,accZ,U_0],bnd_no _,fun _ h => h.elim⟩
theorem askT_PT (a:Acc) (w:World):PT kU (.ask a .done) noF (.agg #[.int .u64 0,.int .i64 a.op,.int .i64 a.at_,.int .u64 (U a.a),.int .u64 (U a.b),.func (.func 122) #[] #[],.pointer none]) w:=
 ⟨_,_,rfl,enters_of Tryz.func122 (by kernel_rfl) rfl,fun x w' _ => doneU_PT x w'⟩
theorem ask_PT (a:Acc) (w:World):Calls Tryz.prog 190 #[.agg #[.int .i64 a.op,.int .i64 a.at_,.int .u64 (U a.a),.int .u64 (U a.b)]] w (RetP (PT kU (.ask a .done)) noF w):=
 (askT_any a w).mono fun _ w' ⟨h1,h2⟩ => ⟨_,noF,h1,h2,askT_PT a w',bnd_no _,fun _ h => h.elim⟩
theorem get_PT (at_:Int) (w:World):Calls Tryz.prog 117 #[.int .i64 at_] w (RetP (PT kU (getT at_)) noF w):=by
 have hA:=fun W => ask_PT (ldA at_) W
 simp only [ldA,U_0] at hA
 replace hA:=Lib.hid hA
 go_enter Tryz.func117,Tryz.ntmps117
 go_wp2_with (go_at_call 190;refine Hid.out ?_)
 refine Lib.hid ?_
 have ⟨hE,hb0,hW⟩:=al1 w (.cells #[.int .u64 0,.int .i64 0,.int .i64 0,.int .u64 0,.int .u64 0,.nilFunc,.pointer none] 208)
 generalize (w.alloc (.cells #[.int .u64 0,.int .i64 0,.int .i64 0,.int .u64 0,.int .u64 0,.nilFunc,.pointer none] 208)) = W at hE hb0 hW ⊢
 replace hW:=Lib.hid hW
 refine (hA.out W).mono ?_
 rintro e w' hR
 obtain ⟨v',F',rfl,hX,hp,hbn,hsub,hnF,hbq⟩:=hR.tail (G:=noF) (w.heap.size) hE (heap_lt hb0) (fun h => h) (fun _ h => h.elim)
 have hbx:=hbq.trans hb0
 clear hbq hR
 clear hE hb0 hW hA
 obtain ⟨y,a2,fn2,rfl,HFN,HX⟩:=tlU hp hX hbx hbn hsub hnF (by omega)
 obtain ⟨c0,c1,c2,c3,c4,c5,c6,cz,ll⟩:=sev_of hbx
 clear hX hbx hp hbn hsub hnF
 rcases HFN.out with rfl | ⟨g',caps',rfl⟩
 all_goals
  go_wp2
  clear c0 c1 c2 c3 c4 c5 c6 cz ll
  obtain ⟨hX,hB,hP⟩:=HX.out
  clear HX
  generalize (World.setCell _ (⟨w.heap.size,6,none⟩ : Addr) _) = Z at hX hB hP ⊢
  obtain ⟨c0,c1,c2,c3,c4,c5,c6,cz,ll⟩:=sev_of hB
  exact bodyPost_ret (by simp only [results,Tryz.results117,go_sem];simp [go_sem,c0,c1,c2,c3,c4,c5,c6]) rfl ⟨_,F',rfl,hX,hP⟩
theorem set1_PT (x:Int) (w:World):Calls Tryz.prog 193 #[.int .u64 x] w (RetP (PT kN (.done ())) noF w):=by
 go_enter Tryz.func193,Tryz.ntmps193
 go_wp2_with (go_at_call 194;refine Hid.out ?_)
 refine Lib.hid ?_
 have ⟨hE,hb0,hW⟩:=al1 w (.cells #[.int .i64 0,.int .i64 0,.int .u64 0,.int .u64 0,.nilFunc,.pointer none] 137)
 generalize (w.alloc (.cells #[.int .i64 0,.int .i64 0,.int .u64 0,.int .u64 0,.nilFunc,.pointer none] 137)) = W at hE hb0 hW ⊢
 replace hW:=Lib.hid hW
 refine (doneN_PT W).mono ?_
 rintro e w' hR
 obtain ⟨v',F',rfl,hX,hp,hbn,hsub,hnF,hbq⟩:=hR.tail (G:=noF) (w.heap.size) hE (heap_lt hb0) (fun h => h) (fun _ h => h.elim)
 have hbx:=hbq.trans hb0
 clear hbq hR
 clear hE hb0 hW
 obtain ⟨a2,fn2,rfl,HFN,HX⟩:=tlN hp hX hbx hbn hsub hnF (by omega)
 obtain ⟨c0,c1,c2,c3,c4,c5,cz,ll⟩:=six_of hbx
 clear hX hbx hp hbn hsub hnF
 rcases HFN.out with rfl | ⟨g',caps',rfl⟩
 all_goals
  go_wp2
  clear c0 c1 c2 c3 c4 c5 cz ll
  obtain ⟨hX,hB,hP⟩:=HX.out
  clear HX
  generalize (World.setCell _ (⟨w.heap.size,5,none⟩ : Addr) _) = Z at hX hB hP ⊢
  obtain ⟨c0,c1,c2,c3,c4,c5,cz,ll⟩:=six_of hB
  exact bodyPost_ret (by simp only [results,Tryz.results193,go_sem];simp [go_sem,c0,c1,c2,c3,c4,c5]) rfl ⟨_,F',rfl,hX,hP⟩
theorem set1_CT (w:World):CT kU kN (fun _ => .done ()) noF (.func (.func 193) #[] #[]) w:=
 ⟨_,_,rfl,enters_of Tryz.func193 (by kernel_rfl) rfl,fun r w' _ => set1_PT (U r) w'⟩
theorem set_PT (at_:Int) (x:BitVec 64) (w:World):Calls Tryz.prog 120 #[.int .i64 at_,.int .u64 (U x)] w (RetP (PT kN (setT at_ x)) noF w):=by
 have hA:=fun W => ask_PT (stA at_ x) W
 simp only [stA,U_0] at hA
 replace hA:=Lib.hid hA
 go_enter Tryz.func120,Tryz.ntmps120
 go_wp2_with (go_at_call 190;refine Hid.out ?_)
 refine Lib.hid ?_
 have ⟨hE,hb0,hW⟩:=al1 w (.cells #[.int .i64 0,.int .i64 0,.int .u64 0,.int .u64 0,.nilFunc,.pointer none] 137)
 generalize (w.alloc (.cells #[.int .i64 0,.int .i64 0,.int .u64 0,.int .u64 0,.nilFunc,.pointer none] 137)) = W at hE hb0 hW ⊢
 replace hW:=Lib.hid hW
 refine (hA.out W).mono ?_
 rintro e w1 ⟨v1,F1,rfl,hx1,hp1,hbn1,hsub1⟩
 have hn1:¬ F1 w.heap.size:=fun h => (hsub1 _ h).elim (fun h => h) fun h => by have:=heap_lt hb0;omega
 have hs1:∀ j,F1 j → noF j ∨ w.heap.size ≤ j:=fun j hj => (hsub1 j hj).imp_right fun h => Nat.le_trans hE.size h
 replace hE:=ext_trans hE hx1
 replace hb0:=(hx1.block _ (heap_lt hb0)).trans hb0
 clear hA hx1 hsub1 hW
 replace hE:=Lib.hid hE
 replace hb0:=Lib.hid hb0
 replace hp1:=Lib.hid hp1
 replace hbn1:=Lib.hid hbn1
 replace hs1:=Lib.hid hs1
 replace hn1:=Lib.hid hn1
 go_wp2_with (go_at_call 192;refine Hid.out ?_)
 refine Lib.hid ?_
 replace hE:=hE.out
 replace hb0:=hb0.out
 replace hp1:=hp1.out
 replace hbn1:=hbn1.out
 replace hs1:=hs1.out
 replace hn1:=hn1.out
 refine (then_UN _ _ F1 noF v1 _ w1 hp1 (set1_CT w1) hbn1 (bnd_no _)).mono ?_
 rintro e w' hR
 obtain ⟨v',F',rfl,hX,hp,hbn,hsub,hnF,hbq⟩:=hR.tail (G:=noF) (w.heap.size) hE (heap_lt hb0) (fun h => h.elim hn1 fun h => h) (fun j h => h.elim (hs1 j) fun h => h.elim)
 have hbx:=hbq.trans hb0
 clear hbq hR
 clear hE hb0 hp1 hbn1 hs1 hn1
 obtain ⟨a2,fn2,rfl,HFN,HX⟩:=tlN hp hX hbx hbn hsub hnF (by omega)
 obtain ⟨c0,c1,c2,c3,c4,c5,cz,ll⟩:=six_of hbx
 clear hX hbx hp hbn hsub hnF
 rcases HFN.out with rfl | ⟨g',caps',rfl⟩
 all_goals
  go_wp2
  clear c0 c1 c2 c3 c4 c5 cz ll
  obtain ⟨hX,hB,hP⟩:=HX.out
  clear HX
  generalize (World.setCell _ (⟨w.heap.size,5,none⟩ : Addr) _) = Z at hX hB hP ⊢
  obtain ⟨c0,c1,c2,c3,c4,c5,cz,ll⟩:=six_of hB
  exact bodyPost_ret (by simp only [results,Tryz.results120,go_sem];simp [go_sem,c0,c1,c2,c3,c4,c5]) rfl ⟨_,F',rfl,hX,hP⟩
theorem try1_PT (was:BitVec 64) (x:BitVec 64) (B:Nat) (w:World) (k:w.heap[B]? = some (.cells #[.int .u64 (U was)] 40 (0,0))):Calls Tryz.prog 206 #[.int .u64 (U x),.pointer (some ⟨B,0,none⟩)] w (RetP (PT kB (.done (x == was))) noF w):=by
 have c:=cell_at (o:=0) k rfl
 have cl:=cell_lt c
 clear k
 have hq:∀ W,Calls Tryz.prog 207 #[.bool (x == was)] W (RetP (PT kB (.done (x == was))) noF W):=fun W => doneB_PT _ W
 generalize hb:(x == was) = b at hq ⊢
 have hU:(U x == U was) = b:=by
  rw [← hb]
  by_cases h:x = was
  ·simp [h]
  ·have:U x ≠ U was:=fun e => h (U_inj e)
   rw [beq_eq_false_iff_ne.2 this,beq_eq_false_iff_ne.2 h]
 clear hb
 replace hq:=Lib.hid hq
 go_enter Tryz.func206,Tryz.ntmps206
 go_wp2_with (go_at_call 207;refine Hid.out ?_)
 refine Lib.hid ?_
 have ⟨hE,hb0,hW⟩:=al1 w (.cells #[.bool false,.int .i64 0,.int .i64 0,.int .u64 0,.int .u64 0,.nilFunc,.pointer none] 218)
 generalize (w.alloc (.cells #[.bool false,.int .i64 0,.int .i64 0,.int .u64 0,.int .u64 0,.nilFunc,.pointer none] 218)) = W at hE hb0 hW ⊢
 replace hW:=Lib.hid hW
 first | rw [hU] | skip
 refine (hq.out W).mono ?_
 rintro e w' hR
 obtain ⟨v',F',rfl,hX,hp,hbn,hsub,hnF,hbq⟩:=hR.tail (G:=noF) (w.heap.size) hE (heap_lt hb0) (fun h => h) (fun _ h => h.elim)
 have hbx:=hbq.trans hb0
 clear hbq hR
 clear hE hb0 hW
 obtain ⟨y,a2,fn2,rfl,HFN,HX⟩:=tlB hp hX hbx hbn hsub hnF (by omega)
 obtain ⟨c0,c1,c2,c3,c4,c5,c6,cz,ll⟩:=sev_of hbx
 clear hX hbx hp hbn hsub hnF
 rcases HFN.out with rfl | ⟨g',caps',rfl⟩
 all_goals
  go_wp2
  clear c0 c1 c2 c3 c4 c5 c6 cz ll
  obtain ⟨hX,hB,hP⟩:=HX.out
  clear HX
  generalize (World.setCell _ (⟨w.heap.size,6,none⟩ : Addr) _) = Z at hX hB hP ⊢
  obtain ⟨c0,c1,c2,c3,c4,c5,c6,cz,ll⟩:=sev_of hB
  exact bodyPost_ret (by simp only [results,Tryz.results206,go_sem];simp [go_sem,c0,c1,c2,c3,c4,c5,c6]) rfl ⟨_,F',rfl,hX,hP⟩
theorem try1_CT (was:BitVec 64) (B:Nat) (w:World) (k:w.heap[B]? = some (.cells #[.int .u64 (U was)] 40 (0,0))):CT kU kB (fun x => .done (x == was)) (fun j => j = B) (.func (.func 206) #[] #[.pointer (some ⟨B,0,none⟩)]) w:=
 ⟨_,_,rfl,enters_of Tryz.func206 (by kernel_rfl) rfl,fun r w' ha => (try1_PT was r B w' ((ha B rfl).trans k)).mono fun _ _ h => h.mono fun _ h => h.elim⟩
theorem try_PT (at_:Int) (was x:BitVec 64) (w:World):Calls Tryz.prog 130 #[.int .i64 at_,.int .u64 (U was),.int .u64 (U x)] w (RetP (PT kB (tryT at_ was x)) noF w):=by
 have hA:=fun W => ask_PT (swA at_ was x) W
 simp only [swA] at hA
 replace hA:=Lib.hid hA
 go_enter Tryz.func130,Tryz.ntmps130
 go_wp2_with (go_at_call 190;refine Hid.out ?_)
 refine Lib.hid ?_
 have ⟨hE,hb0,hb1,hW⟩:=al2 w (.cells #[.int .u64 (U was)] 40) (.cells #[.bool false,.int .i64 0,.int .i64 0,.int .u64 0,.int .u64 0,.nilFunc,.pointer none] 218)
 generalize ((w.alloc (.cells #[.int .u64 (U was)] 40)).alloc (.cells #[.bool false,.int .i64 0,.int .i64 0,.int .u64 0,.int .u64 0,.nilFunc,.pointer none] 218)) = W at hE hb0 hb1 hW ⊢
 replace hW:=Lib.hid hW
 refine (hA.out W).mono ?_
 rintro e w1 ⟨v1,F1,rfl,hx1,hp1,hbn1,hsub1⟩
 have hn1:¬ F1 (w.heap.size+1):=fun h => (hsub1 _ h).elim (fun h => h) fun h => by have:=heap_lt hb1;omega
 have hs1:∀ j,F1 j → noF j ∨ w.heap.size ≤ j:=fun j hj => (hsub1 j hj).imp_right fun h => Nat.le_trans hE.size h
 replace hE:=ext_trans hE hx1
 replace hb0:=(hx1.block _ (heap_lt hb0)).trans hb0
 replace hb1:=(hx1.block _ (heap_lt hb1)).trans hb1
 clear hA hx1 hsub1 hW
 replace hE:=Lib.hid hE
 replace hb0:=Lib.hid hb0
 replace hb1:=Lib.hid hb1
 replace hp1:=Lib.hid hp1
 replace hbn1:=Lib.hid hbn1
 replace hs1:=Lib.hid hs1
 replace hn1:=Lib.hid hn1
 go_wp2_with (go_at_call 205;refine Hid.out ?_)
 refine Lib.hid ?_
 replace hE:=hE.out
 replace hb0:=hb0.out
 replace hb1:=hb1.out
 replace hp1:=hp1.out
 replace hbn1:=hbn1.out
 replace hs1:=hs1.out
 replace hn1:=hn1.out
 refine (then_UB _ _ F1 _ v1 _ w1 hp1 (try1_CT was w.heap.size w1 hb0) hbn1 (fun j h => by subst h;exact heap_lt hb0)).mono ?_
 rintro e w' hR
 obtain ⟨v',F',rfl,hX,hp,hbn,hsub,hnF,hbq⟩:=hR.tail (G:=noF) (w.heap.size+1) hE (heap_lt hb1) (fun h => h.elim hn1 fun h => by omega) (fun j h => h.elim (hs1 j) fun h => .inr (by omega))
 have hbx:=hbq.trans hb1
 clear hbq hR
 clear hE hb0 hb1 hp1 hbn1 hs1 hn1
 obtain ⟨y,a2,fn2,rfl,HFN,HX⟩:=tlB hp hX hbx hbn hsub hnF (by omega)
 obtain ⟨c0,c1,c2,c3,c4,c5,c6,cz,ll⟩:=sev_of hbx
 clear hX hbx hp hbn hsub hnF
 rcases HFN.out with rfl | ⟨g',caps',rfl⟩
 all_goals
  go_wp2
  clear c0 c1 c2 c3 c4 c5 c6 cz ll
  obtain ⟨hX,hB,hP⟩:=HX.out
  clear HX
  generalize (World.setCell _ (⟨w.heap.size+1,6,none⟩ : Addr) _) = Z at hX hB hP ⊢
  obtain ⟨c0,c1,c2,c3,c4,c5,c6,cz,ll⟩:=sev_of hB
  exact bodyPost_ret (by simp only [results,Tryz.results130,go_sem];simp [go_sem,c0,c1,c2,c3,c4,c5,c6]) rfl ⟨_,F',rfl,hX,hP⟩
theorem thenDUI (r:BitVec 64) (a:Acc) (f:BitVec 64 → Tr (Int)) (F:Nat → Prop) (fn:Value) (w:World) (hC:CT kU kI f F fn w) (hF:Bnd F w) :
  Calls Tryz.prog 139 #[.agg #[.int .u64 (U r),.int .i64 a.op,.int .i64 a.at_,.int .u64 (U a.a),.int .u64 (U a.b),.nilFunc,.pointer none],fn] w (RetP (PT kI (f r)) F w):=by
 obtain ⟨g,caps,rfl,hg,hc⟩:=hC
 have HN:=Lib.hid hc
 unfold Enters at hg
 clear hc
 go_enter Tryz.func139,Tryz.ntmps139
 go_wp2_with (go_at_call 214;refine (overYU (U r) a.op a.at_ (U a.a) (U a.b) _).mono ?_;rintro e w1 ⟨rfl,hx⟩;refine Hid.out ?_)
 refine Lib.hid ?_
 have hb2:=(hx.block (w.heap.size+1) (by simp)).trans ((Below.heap_alloc _ _ _ (by simp)).trans (heap_at (w.alloc (.cells #[.int .u64 (U r),.int .i64 a.op,.int .i64 a.at_,.int .u64 (U a.a),.int .u64 (U a.b),.nilFunc,.pointer none] 208)) _ _ (by simp)))
 have hb3:=(hx.block (w.heap.size+1+1) (by simp)).trans (heap_at ((w.alloc (.cells #[.int .u64 (U r),.int .i64 a.op,.int .i64 a.at_,.int .u64 (U a.a),.int .u64 (U a.b),.nilFunc,.pointer none] 208)).alloc (.cells #[.func (.func g) #[] caps] 60)) _ _ (by simp))
 have hE:Ext w w1:=ext_trans (ext_alloc _ (ext_alloc _ (ext_alloc _ (ext_refl w)))) hx
 have hs1:w.heap.size+1+1 < w1.heap.size:=heap_lt hb3
 have k0:=cell_at (o:=0) hb2 rfl
 have l0:=heap_lt hb2
 have HE:=Lib.hid (id hE)
 have HB3:=Lib.hid (hb3)
 have hsa:w1.heap.size = w1.heap.size+0:=by simp
 have HCX:=Lib.hid (HN.out r w1 (Agr.of_ext HE.out hF))
 simp only [kU] at HCX
 clear hx hb2 hb3 hE HN
 go_wp2_with (refine HCX.out.mono ?_;rintro e2 w2 ⟨v',F',rfl,hx,hp,hbn,hsub⟩;refine Hid.out ?_)
 refine Lib.hid ?_
 have hbx:=(hx.block _ (heap_lt HB3.out)).trans HB3.out
 have hnF:¬ F' (w.heap.size+1+1):=fun h => by
  rcases hsub _ h with h | h
  ·have:=hF _ h;omega
  ·omega
 obtain ⟨y,a2,fn2,rfl,HFN,HX⟩:=tlI hp (ext_trans HE.out hx) hbx hbn (fun j hj => (hsub j hj).imp_right fun h => (by omega:w.heap.size ≤ j)) hnF (by omega)
 obtain ⟨c0,c1,c2,c3,c4,c5,c6,cz,ll⟩:=sev_of hbx
 clear hx hbx hp hbn hsub hnF HCX HE HB3
 rcases HFN.out with rfl | ⟨g',caps',rfl⟩
 all_goals
  go_wp2
  clear c0 c1 c2 c3 c4 c5 c6 cz ll
  obtain ⟨hX,hB,hP⟩:=HX.out
  clear HX
  generalize (World.setCell _ (⟨w.heap.size+1+1,6,none⟩ : Addr) _) = Z at hX hB hP ⊢
  obtain ⟨c0,c1,c2,c3,c4,c5,c6,cz,ll⟩:=sev_of hB
  exact bodyPost_ret (by simp only [results,Tryz.results139,go_sem];simp [go_sem,c0,c1,c2,c3,c4,c5,c6]) rfl ⟨_,F',rfl,hX,hP⟩
theorem thenAUI (a:Acc) (g0:FuncId) (caps0:Array Value) (g:FuncId) (caps:Array Value) (w:World) :
  Calls Tryz.prog 139 #[.agg #[.int .u64 0,.int .i64 a.op,.int .i64 a.at_,.int .u64 (U a.a),.int .u64 (U a.b),.func (.func g0) #[] caps0,.pointer none],.func (.func g) #[] caps] w fun e w' => e = .returned (.agg #[.int .i64 0,.int .i64 a.op,.int .i64 a.at_,.int .u64 (U a.a),.int .u64 (U a.b),.func (.func 215) #[] #[.pointer (some ⟨w.heap.size,0,none⟩),.pointer (some ⟨w.heap.size+1,0,none⟩)],.pointer none]) ∧ Ext w w' ∧ w'.heap[w.heap.size]? = some (.cells #[.int .u64 0,.int .i64 a.op,.int .i64 a.at_,.int .u64 (U a.a),.int .u64 (U a.b),.func (.func g0) #[] caps0,.pointer none] 208 (0,0)) ∧ w'.heap[w.heap.size+1]? = some (.cells #[.func (.func g) #[] caps] 60 (0,0)):=by
 go_enter Tryz.func139,Tryz.ntmps139
 go_wp2_with (go_at_call 214;refine (ovnU a _ _ _ _).mono ?_;rintro e w1 ⟨rfl,hx⟩;refine Hid.out ?_)
 refine Lib.hid ?_
 have hb1:=(hx.block w.heap.size (by simp;omega)).trans ((Below.heap_alloc _ _ _ (by simp;omega)).trans ((Below.heap_alloc _ _ _ (by simp)).trans (heap_at w (.cells #[.int .u64 0,.int .i64 a.op,.int .i64 a.at_,.int .u64 (U a.a),.int .u64 (U a.b),.func (.func g0) #[] caps0,.pointer none] 208) _ rfl)))
 have hb2:=(hx.block (w.heap.size+1) (by simp)).trans ((Below.heap_alloc _ _ _ (by simp)).trans (heap_at (w.alloc (.cells #[.int .u64 0,.int .i64 a.op,.int .i64 a.at_,.int .u64 (U a.a),.int .u64 (U a.b),.func (.func g0) #[] caps0,.pointer none] 208)) _ _ (by simp)))
 have hb3:=(hx.block (w.heap.size+1+1) (by simp)).trans (heap_at ((w.alloc (.cells #[.int .u64 0,.int .i64 a.op,.int .i64 a.at_,.int .u64 (U a.a),.int .u64 (U a.b),.func (.func g0) #[] caps0,.pointer none] 208)).alloc (.cells #[.func (.func g) #[] caps] 60)) _ _ (by simp))
 have hE:Ext w w1:=ext_trans (ext_alloc _ (ext_alloc _ (ext_alloc _ (ext_refl w)))) hx
 obtain ⟨d0,d1,d2,d3,d4,d5,d6,dz,dl⟩:=sev_of hb1
 have hX:=put7_ext (b:=w.heap.size+1+1) (.int .i64 0) (.int .i64 a.op) (.int .i64 a.at_) (.int .u64 (U a.a)) (.int .u64 (U a.b)) (.func (.func 215) #[] #[.pointer (some ⟨w.heap.size,0,none⟩),.pointer (some ⟨w.heap.size+1,0,none⟩)]) (.pointer none) hE (by omega)
 have hB:=put7_block (.int .i64 0) (.int .i64 a.op) (.int .i64 a.at_) (.int .u64 (U a.a)) (.int .u64 (U a.b)) (.func (.func 215) #[] #[.pointer (some ⟨w.heap.size,0,none⟩),.pointer (some ⟨w.heap.size+1,0,none⟩)]) (.pointer none) hb3
 have hA1:=(put7_other (w:=w1) (b:=w.heap.size+1+1) (k:=w.heap.size) (.int .i64 0) (.int .i64 a.op) (.int .i64 a.at_) (.int .u64 (U a.a)) (.int .u64 (U a.b)) (.func (.func 215) #[] #[.pointer (some ⟨w.heap.size,0,none⟩),.pointer (some ⟨w.heap.size+1,0,none⟩)]) (.pointer none) (by omega)).trans hb1
 have hA2:=(put7_other (w:=w1) (b:=w.heap.size+1+1) (k:=w.heap.size+1) (.int .i64 0) (.int .i64 a.op) (.int .i64 a.at_) (.int .u64 (U a.a)) (.int .u64 (U a.b)) (.func (.func 215) #[] #[.pointer (some ⟨w.heap.size,0,none⟩),.pointer (some ⟨w.heap.size+1,0,none⟩)]) (.pointer none) (by omega)).trans hb2
 obtain ⟨c0,c1,c2,c3,c4,c5,c6,cz,ll⟩:=sev_of hb3
 rw [put7] at hX hB hA1 hA2
 have HX:=Lib.hid (And.intro hX (And.intro hB (And.intro hA1 hA2)))
 clear hX hB hA1 hA2 hb1 hb2 hb3 hE hx
 go_wp2
 clear c0 c1 c2 c3 c4 c5 c6 cz ll
 obtain ⟨hX,hB,hA1,hA2⟩:=HX.out
 clear HX
 generalize (World.setCell _ (⟨w.heap.size+1+1,6,none⟩ : Addr) _) = Z at hX hB hA1 hA2 ⊢
 obtain ⟨c0,c1,c2,c3,c4,c5,c6,cz,ll⟩:=sev_of hB
 exact bodyPost_ret (by simp only [results,Tryz.results139,go_sem];simp [go_sem,c0,c1,c2,c3,c4,c5,c6]) rfl ⟨rfl,hX,hA1,hA2⟩
theorem then1UI {t:Tr (BitVec 64)} {t2:Tr (Int)} (a:Acc) (g0:FuncId) (caps0:Array Value) (g:FuncId) (caps:Array Value) (F G:Nat → Prop) (x:BitVec 64) (B1 B2:Nat) (w:World) (he:Enters g0) (hF:Bnd F w) (hG:Bnd G w)
  (k1:w.heap[B1]? = some (.cells #[.int .u64 0,.int .i64 a.op,.int .i64 a.at_,.int .u64 (U a.a),.int .u64 (U a.b),.func (.func g0) #[] caps0,.pointer none] 208 (0,0))) (k2:w.heap[B2]? = some (.cells #[.func (.func g) #[] caps] 60 (0,0)))
  (hN:∀ W,Ext w W → Calls Tryz.prog g0 (#[.int .u64 (U x)] ++ caps0) W (RetP (PT kU t) F W))
  (hT:∀ v F1 W,Ext w W → PT kU t F1 v W → Bnd F1 W → Calls Tryz.prog 139 #[v,.func (.func g) #[] caps] W (RetP (PT kI t2) (fun j => F1 j ∨ G j) W)) :
  Calls Tryz.prog 215 #[.int .u64 (U x),.pointer (some ⟨B1,0,none⟩),.pointer (some ⟨B2,0,none⟩)] w (RetP (PT kI t2) (fun j => F j ∨ G j) w):=by
 have HN:=Lib.hid hN
 have HT:=Lib.hid hT
 unfold Enters at he
 have q1:=cell_at (o:=5) k1 rfl
 have q2:=cell_at (o:=0) k2 rfl
 have l1:=cell_lt q1
 have l2:=cell_lt q2
 clear hN hT k1 k2
 go_enter Tryz.func215,Tryz.ntmps215
 go_wp2
 have m1:=ext_cell (ext_alloc (.cells #[.int .i64 0,.int .i64 0,.int .i64 0,.int .u64 0,.int .u64 0,.nilFunc,.pointer none] 62) (ext_refl w)) q1
 have m2:=ext_cell (ext_alloc (.cells #[.int .i64 0,.int .i64 0,.int .i64 0,.int .u64 0,.int .u64 0,.nilFunc,.pointer none] 62) (ext_refl w)) q2
 have hE:Ext w (w.alloc (.cells #[.int .i64 0,.int .i64 0,.int .i64 0,.int .u64 0,.int .u64 0,.nilFunc,.pointer none] 62)):=ext_alloc _ (ext_refl w)
 have hb:=heap_at w (.cells #[.int .i64 0,.int .i64 0,.int .i64 0,.int .u64 0,.int .u64 0,.nilFunc,.pointer none] 62) w.heap.size rfl
 have hW:(w.alloc (.cells #[.int .i64 0,.int .i64 0,.int .i64 0,.int .u64 0,.int .u64 0,.nilFunc,.pointer none] 62)).heap.size = w.heap.size+1:=by simp
 generalize w.alloc (.cells #[.int .i64 0,.int .i64 0,.int .i64 0,.int .u64 0,.int .u64 0,.nilFunc,.pointer none] 62) = W at m1 m2 hE hb hW ⊢
 have n1:=cell_lt m1
 have n2:=cell_lt m2
 have HE:=Lib.hid hE
 have HB:=Lib.hid hb
 have HW:=Lib.hid hW
 clear hE hb hW
 refine wp_region_mix (fun w' => ∃ s,w' = over W s) [(0,[0,1,2,4]),(1,[3]),(1,[5]),(2,[6])] (by kernel_rfl) (by kernel_rfl) (over_of (ext_drew (ext_refl W))) ?_
 simp only [pieces,pickL,List.map_cons,List.map_nil,List.getD_cons_zero,List.getD_cons_succ]
 refine mix_reads ?_
 repeat (go_big_quiet_step (fail))
 refine wpQuiet_nil (mix_acts ?_)
 have HCX:=Lib.hid (HN.out W.drew (ext_drew HE.out))
 go_wp2_with (refine HCX.out.mono ?_;rintro e w1 ⟨v1,F1,rfl,hx1,hp1,hbn1,hsub1⟩;refine Hid.out ?_)
 refine Lib.hid ?_
 have HX1:=Lib.hid (ext_trans (ext_drew (ext_refl W)) hx1)
 have HT1:=Lib.hid (HT.out v1 F1 w1 (ext_trans HE.out HX1.out) hp1 hbn1)
 have HS1:=Lib.hid hsub1
 clear hx1 hp1 hbn1 hsub1 HCX HN HT
 go_wp2
 refine mixQ_mk (over_of HX1.out) (mix_acts ?_)
 go_wp2_with (go_at_call 139;refine HT1.out.mono ?_;rintro e w2 ⟨v2,F2,rfl,hx2,hp2,hbn2,hsub2⟩;refine Hid.out ?_)
 refine Lib.hid ?_
 have HX2:=Lib.hid (ext_trans HX1.out hx2)
 have hsub:∀ j,F2 j → (F j ∨ G j) ∨ w.heap.size+1 ≤ j:=fun j hj => by
  have h1:=HX1.out.size
  have h2:=HW.out
  rcases hsub2 j hj with (h | h) | h
  ·rcases HS1.out j h with h | h
   ·exact .inl (.inl h)
   ·have h3:W.drew.heap.size = W.heap.size:=rfl
    exact .inr (by omega)
  ·exact .inl (.inr h)
  ·exact .inr (by omega)
 have hnF:¬ F2 w.heap.size:=fun h => by
  rcases hsub _ h with (h | h) | h
  ·have:=hF _ h;omega
  ·have:=hG _ h;omega
  ·omega
 have hbx:=(HX2.out.block _ (heap_lt HB.out)).trans HB.out
 obtain ⟨y,a2,fn2,rfl,HFN,HX⟩:=tlI hp2 (ext_trans HE.out HX2.out) hbx hbn2 (fun j hj => (hsub j hj).imp_right fun h => (by omega:w.heap.size ≤ j)) hnF (Nat.le_refl _)
 have HBX:=Lib.hid hbx
 clear hx2 hp2 hbn2 hsub2 hsub hnF hbx HT1 HS1
 go_wp2
 refine mixQ_mk (over_of HX2.out) (mix_late ?_)
 obtain ⟨c0,c1,c2,c3,c4,c5,c6,cz,ll⟩:=sev_of HBX.out
 clear HBX
 rcases HFN.out with rfl | ⟨g',caps',rfl⟩
 all_goals
  go_wp2
  refine lateQ_mk (fun _ => True) trivial (mix_end ?_)
  clear c0 c1 c2 c3 c4 c5 c6 cz ll
  obtain ⟨hX,hB,hP⟩:=HX.out
  clear HX
  generalize (World.setCell _ (⟨w.heap.size,6,none⟩ : Addr) _) = Z at hX hB hP ⊢
  obtain ⟨c0,c1,c2,c3,c4,c5,c6,cz,ll⟩:=sev_of hB
  go_wp2
  exact bodyPost_ret (by simp only [results,Tryz.results215,go_sem];simp [go_sem,c0,c1,c2,c3,c4,c5,c6]) rfl ⟨_,F2,rfl,hX,hP⟩
theorem thenM_UI (F:Nat → Prop) (v:Value) (g:FuncId) (caps:Array Value) (w:World) (hP:PT kU .more F v w):Calls Tryz.prog 139 #[v,.func (.func g) #[] caps] w (RetP (PT kI .more) noF w):=by
 obtain ⟨a,g0,caps0,rfl,he⟩:=hP
 refine (thenAUI a g0 caps0 g caps w).mono ?_
 rintro e w' ⟨rfl,hx,h1,h2⟩
 exact ⟨_,noF,rfl,hx,⟨a,_,_,rfl,enters_of Tryz.func215 (by kernel_rfl) rfl⟩,fun _ h => h.elim,fun _ h => h.elim⟩
theorem then_UI:∀ (t:Tr (BitVec 64)) (f:BitVec 64 → Tr (Int)) (F G:Nat → Prop) (v fn:Value) (w:World),PT kU t F v w → CT kU kI f G fn w → Bnd F w → Bnd G w →
  Calls Tryz.prog 139 #[v,fn] w (RetP (PT kI (t.bind f)) (fun j => F j ∨ G j) w)
 | .done r,f,F,G,v,fn,w,hP,hC,hF,hG => by
  cases hP
  exact (thenDUI r accZ f G fn w hC hG).mono fun e w' h => h.mono fun j hj => .inr hj
 | .more,f,F,G,v,fn,w,hP,hC,hF,hG => by
  obtain ⟨g,caps,rfl,hg,hc⟩:=hC
  exact (thenM_UI F v g caps w hP).mono fun e w' h => h.mono fun j hj => hj.elim
 | .ask a k,f,F,G,v,fn,w,hP,hC,hF,hG => by
  obtain ⟨g0,caps0,rfl,he,hk⟩:=hP
  obtain ⟨g,caps,rfl,hg,hc⟩:=id hC
  refine (thenAUI a g0 caps0 g caps w).mono ?_
  rintro e w' ⟨rfl,hx,h1,h2⟩
  have hs1:=heap_lt h1
  have hs2:=heap_lt h2
  refine ⟨_,fun j => (F j ∨ G j) ∨ j = w.heap.size ∨ j = w.heap.size+1,rfl,hx,⟨_,_,rfl,enters_of Tryz.func215 (by kernel_rfl) rfl,fun x u hu => ?_⟩,?_,?_⟩
  ·have hFu:Agr F w u:=(Agr.of_ext hx hF).trans (hu.sub fun j hj => .inl (.inl hj))
   have hGu:Agr G w u:=(Agr.of_ext hx hG).trans (hu.sub fun j hj => .inl (.inr hj))
   have hu1:=(hu w.heap.size (.inr (.inl rfl))).trans h1
   have hu2:=(hu (w.heap.size+1) (.inr (.inr rfl))).trans h2
   have lt_of:∀ j,j < w.heap.size → u.heap[j]? = w.heap[j]? → j < u.heap.size:=fun j hj e => by
    have h0:w.heap[j]? = some w.heap[j]:=Array.getElem?_eq_getElem hj
    exact heap_lt (e.trans h0)
   have bF:Bnd F u:=fun j hj => lt_of j (hF j hj) (hFu j hj)
   have bG:Bnd G u:=fun j hj => lt_of j (hG j hj) (hGu j hj)
   refine (then1UI a g0 caps0 g caps F G x w.heap.size (w.heap.size+1) u he bF bG hu1 hu2 (fun W hW => hk x W (hFu.trans (Agr.of_ext hW bF))) (fun v' F1 W hW hp hb => then_UI (k x) f F1 G v' _ W hp (hC.agr (hGu.trans (Agr.of_ext hW bG))) hb (bG.ext hW.size))).mono ?_
   exact fun e w'' h => h.mono fun j hj => .inl hj
  ·intro j hj
   rcases hj with (hj | hj) | rfl | rfl
   ·exact Nat.lt_of_lt_of_le (hF j hj) hx.size
   ·exact Nat.lt_of_lt_of_le (hG j hj) hx.size
   ·exact hs1
   ·exact hs2
  ·intro j hj
   rcases hj with hj | rfl | rfl
   ·exact .inl hj
   ·exact .inr (Nat.le_refl _)
   ·exact .inr (Nat.le_succ _)
end Go.Proofs.YthjklbonebnekaaGreat

