/-
  What the call of New comes to. Conditions: those of each theorem.
-/
import Derived.Test.YthjklbonebnekaaGreatGat
import Derived.Test.YthjklbonebnekaaGreatGbc
import Derived.Test.YthjklbonebnekaaGreatGbd
import Derived.Test.YthjklbonebnekaaGreatGbe
import Derived.Test.YthjklbonebnekaaGreatGbh
set_option maxRecDepth 8000
set_option maxHeartbeats 4000000
namespace Go.Proofs.YthjklbonebnekaaGreat
open Go Go.RowKit
theorem cn1_PT (s:Se) (r:Gr) (B1:Nat) (w:World)  (k1:SBox B1 s w) :
  Calls Tryz.prog 113 #[grV r,.pointer (some ⟨B1,0,none⟩)] w (RetP (PT kR (cn1T s.tn r)) noF w):=by
 obtain ⟨n0,g0,e0⟩:=r
 show Calls Tryz.prog 113 #[.agg #[.int .i64 n0,.int .i64 g0,.int .i64 e0],.pointer (some ⟨B1,0,none⟩)] w _
 by_cases he:e0 = 0
 ·subst he
  have eT:cn1T s.tn ⟨n0,g0,0⟩ = .done ⟨0,Hn.word ⟨n0,g0,s.tn⟩⟩:=by unfold cn1T;rw [if_pos rfl]
  rw [eT]
  clear eT
  have HWD:∀ W,Calls Tryz.prog 115 #[.agg #[.int .i64 n0,.int .i64 g0,.int .i64 s.tn]] W (Ret (.int .u64 (U (Hn.word ⟨n0,g0,s.tn⟩))) W):=fun W => hword_any ⟨n0,g0,s.tn⟩ W
  obtain ⟨z,hz⟩ : ∃ z,Hn.word ⟨n0,g0,s.tn⟩ = z:=⟨_,rfl⟩
  rw [hz] at HWD ⊢
  clear hz
  have qk1:=heap_lt k1
  have ⟨z0,z1,z2,z3,z4,z5,z6,z7,zl⟩:=SBox.plc k1
  replace k1:=Lib.hid k1
  replace HWD:=Lib.hid HWD
  go_enter Tryz.func113,Tryz.ntmps113
  go_wp2_with (go_at_call 115;refine Hid.out ?_)
  refine Lib.hid ?_
  have ⟨hE,hb0,hb1,hW⟩:=al2 w (.cells #[.int .i64 n0,.int .i64 g0,.int .i64 0] 37) (.cells #[.int .i64 0,.int .u64 0,.int .i64 0,.int .i64 0,.int .u64 0,.int .u64 0,.nilFunc,.pointer none] 99)
  generalize ((w.alloc (.cells #[.int .i64 n0,.int .i64 g0,.int .i64 0] 37)).alloc (.cells #[.int .i64 0,.int .u64 0,.int .i64 0,.int .i64 0,.int .u64 0,.int .u64 0,.nilFunc,.pointer none] 99)) = W at hE hb0 hb1 hW ⊢
  replace k1:=(hE.block _ (heap_lt k1.out)).trans k1.out
  clear hW
  clear z0 z1 z2 z3 z4 z5 z6 z7 zl
  refine (HWD.out W).mono ?_
  rintro e w1 ⟨rfl,hx⟩
  replace hE:=ext_trans hE hx
  replace hb0:=(hx.block _ (heap_lt hb0)).trans hb0
  replace hb1:=(hx.block _ (heap_lt hb1)).trans hb1
  replace k1:=(hx.block _ (heap_lt k1)).trans k1
  clear hx
  replace hE:=Lib.hid hE
  replace hb0:=Lib.hid hb0
  replace hb1:=Lib.hid hb1
  replace k1:=Lib.hid k1
  go_wp2_with (go_at_call 114;refine Hid.out ?_)
  refine Lib.hid ?_
  replace hE:=hE.out
  replace hb0:=hb0.out
  replace hb1:=hb1.out
  replace k1:=k1.out
  refine (tells_PT z w1).mono ?_
  rintro e w' hR
  obtain ⟨v',F',rfl,hX,hp,hbn,hsub,hnF,hbq⟩:=hR.tail (G:=noF) (w.heap.size+1) hE (heap_lt hb1) (fun h => h) (fun _ h => h.elim)
  have hbx:=hbq.trans hb1
  clear hbq hR
  clear hE hb0 hb1 k1 HWD
  obtain ⟨y0,y1,a2,fn2,rfl,HFN,HX⟩:=tlR hp hX hbx hbn hsub hnF (by omega)
  obtain ⟨c0,c1,c2,c3,c4,c5,c6,c7,cz,ll⟩:=eit_of hbx
  clear hX hbx hp hbn hsub hnF
  rcases HFN.out with rfl | ⟨g',caps',rfl⟩
  all_goals
   go_wp2
   clear c0 c1 c2 c3 c4 c5 c6 c7 cz ll
   obtain ⟨hX,hB,hP⟩:=HX.out
   clear HX
   generalize (World.setCell _ (⟨w.heap.size+1,7,none⟩ : Addr) _) = Z at hX hB hP ⊢
   obtain ⟨c0,c1,c2,c3,c4,c5,c6,c7,cz,ll⟩:=eit_of hB
   exact bodyPost_ret (by simp only [results,Tryz.results113,go_sem];simp [go_sem,c0,c1,c2,c3,c4,c5,c6,c7]) rfl ⟨_,F',rfl,hX,hP⟩
 ·have eT:cn1T s.tn ⟨n0,g0,e0⟩ = .done ⟨e0,0#64⟩:=by unfold cn1T;rw [if_neg he]
  rw [eT]
  have hb:(e0 != 0) = true:=bne_iff_ne.2 he
  clear eT he
  have qk1:=heap_lt k1
  have ⟨z0,z1,z2,z3,z4,z5,z6,z7,zl⟩:=SBox.plc k1
  replace k1:=Lib.hid k1
  go_enter Tryz.func113,Tryz.ntmps113
  go_wp2_with (go_at_call 111;refine Hid.out ?_)
  refine Lib.hid ?_
  have ⟨hE,hb0,hb1,hW⟩:=al2 w (.cells #[.int .i64 n0,.int .i64 g0,.int .i64 e0] 37) (.cells #[.int .i64 0,.int .u64 0,.int .i64 0,.int .i64 0,.int .u64 0,.int .u64 0,.nilFunc,.pointer none] 99)
  generalize ((w.alloc (.cells #[.int .i64 n0,.int .i64 g0,.int .i64 e0] 37)).alloc (.cells #[.int .i64 0,.int .u64 0,.int .i64 0,.int .i64 0,.int .u64 0,.int .u64 0,.nilFunc,.pointer none] 99)) = W at hE hb0 hb1 hW ⊢
  replace k1:=(hE.block _ (heap_lt k1.out)).trans k1.out
  clear hW
  clear z0 z1 z2 z3 z4 z5 z6 z7 zl
  refine (fails_PT e0 W).mono ?_
  rintro e w' hR
  obtain ⟨v',F',rfl,hX,hp,hbn,hsub,hnF,hbq⟩:=hR.tail (G:=noF) (w.heap.size+1) hE (heap_lt hb1) (fun h => h) (fun _ h => h.elim)
  have hbx:=hbq.trans hb1
  clear hbq hR
  clear hE hb0 hb1 k1
  obtain ⟨y0,y1,a2,fn2,rfl,HFN,HX⟩:=tlR hp hX hbx hbn hsub hnF (by omega)
  obtain ⟨c0,c1,c2,c3,c4,c5,c6,c7,cz,ll⟩:=eit_of hbx
  clear hX hbx hp hbn hsub hnF
  rcases HFN.out with rfl | ⟨g',caps',rfl⟩
  all_goals
   go_wp2
   clear c0 c1 c2 c3 c4 c5 c6 c7 cz ll
   obtain ⟨hX,hB,hP⟩:=HX.out
   clear HX
   generalize (World.setCell _ (⟨w.heap.size+1,7,none⟩ : Addr) _) = Z at hX hB hP ⊢
   obtain ⟨c0,c1,c2,c3,c4,c5,c6,c7,cz,ll⟩:=eit_of hB
   exact bodyPost_ret (by simp only [results,Tryz.results113,go_sem];simp [go_sem,c0,c1,c2,c3,c4,c5,c6,c7]) rfl ⟨_,F',rfl,hX,hP⟩
theorem cn1_CT (s:Se) (B1:Nat) (w:World)  (k1:SBox B1 s w)  :
  CT kG kR (fun r => cn1T s.tn r) (fun j => j = B1) (.func (.func 113) #[] #[.pointer (some ⟨B1,0,none⟩)]) w:=by
 refine ⟨_,_,rfl,enters_of Tryz.func113 (by kernel_rfl) rfl,fun x9 w' ha => ?_⟩
 exact (cn1_PT s x9 B1 w' ((ha B1 (rfl)).trans k1)).mono fun _ _ h => h.mono fun j h => h.elim
def cnewT (s:Se) (N:Nat):Tr Rz:=if s.ok then cnwT s.p s.th s.tn N else .done ⟨1,0#64⟩
theorem cnew_arg (s:Se) (w:World) (hr:∀ W,Calls Tryz.prog 43 #[seV s] W (Ret (.bool false) W)):Calls Tryz.prog 48 #[seV s] w (RetP (PT kR (.done ⟨1,0#64⟩)) noF w):=by
 replace hr:=Lib.hid hr
 go_enter Tryz.func48,Tryz.ntmps48
 go_wp2_with (go_at_call 43;refine Hid.out ?_)
 refine Lib.hid ?_
 have ⟨hE,hb0,hb1,hW⟩:=al2 w (.cells #[.int .i64 s.p.n,.int .i64 s.p.t,.int .i64 s.p.r,.int .i64 s.p.d,.int .i64 s.p.b,.int .i64 s.p.g,.int .i64 s.tn,.int .i64 s.th] 82) (.cells #[.int .i64 0,.int .u64 0,.int .i64 0,.int .i64 0,.int .u64 0,.int .u64 0,.nilFunc,.pointer none] 99)
 generalize ((w.alloc (.cells #[.int .i64 s.p.n,.int .i64 s.p.t,.int .i64 s.p.r,.int .i64 s.p.d,.int .i64 s.p.b,.int .i64 s.p.g,.int .i64 s.tn,.int .i64 s.th] 82)).alloc (.cells #[.int .i64 0,.int .u64 0,.int .i64 0,.int .i64 0,.int .u64 0,.int .u64 0,.nilFunc,.pointer none] 99)) = W at hE hb0 hb1 hW ⊢
 clear hW
 refine (hr.out W).mono ?_
 rintro e w1 ⟨rfl,hx⟩
 replace hE:=ext_trans hE hx
 replace hb0:=(hx.block _ (heap_lt hb0)).trans hb0
 replace hb1:=(hx.block _ (heap_lt hb1)).trans hb1
 clear hx
 replace hE:=Lib.hid hE
 replace hb0:=Lib.hid hb0
 replace hb1:=Lib.hid hb1
 go_wp2_with (go_at_call 111;refine Hid.out ?_)
 refine Lib.hid ?_
 replace hE:=hE.out
 replace hb0:=hb0.out
 replace hb1:=hb1.out
 refine (fails_PT 1 w1).mono ?_
 rintro e w' hR
 obtain ⟨v',F',rfl,hX,hp,hbn,hsub,hnF,hbq⟩:=hR.tail (G:=noF) (w.heap.size+1) hE (heap_lt hb1) (fun h => h) (fun _ h => h.elim)
 have hbx:=hbq.trans hb1
 clear hbq hR
 clear hE hb0 hb1 hr
 obtain ⟨y0,y1,a2,fn2,rfl,HFN,HX⟩:=tlR hp hX hbx hbn hsub hnF (by omega)
 obtain ⟨c0,c1,c2,c3,c4,c5,c6,c7,cz,ll⟩:=eit_of hbx
 clear hX hbx hp hbn hsub hnF
 rcases HFN.out with rfl | ⟨g',caps',rfl⟩
 all_goals
  go_wp2
  clear c0 c1 c2 c3 c4 c5 c6 c7 cz ll
  obtain ⟨hX,hB,hP⟩:=HX.out
  clear HX
  generalize (World.setCell _ (⟨w.heap.size+1,7,none⟩ : Addr) _) = Z at hX hB hP ⊢
  obtain ⟨c0,c1,c2,c3,c4,c5,c6,c7,cz,ll⟩:=eit_of hB
  exact bodyPost_ret (by simp only [results,Tryz.results48,go_sem];simp [go_sem,c0,c1,c2,c3,c4,c5,c6,c7]) rfl ⟨_,F',rfl,hX,hP⟩
theorem cnew_yes (s:Se) (N:Nat) (w:World) (hr:∀ W,Calls Tryz.prog 43 #[seV s] W (Ret (.bool true) W)) (hpk:s.p.ok):Calls Tryz.prog 48 #[seV s] w (RetP (PT kR (cnwT s.p s.th s.tn N)) noF w):=by
 replace hr:=Lib.hid hr
 replace hpk:=Lib.hid hpk
 go_enter Tryz.func48,Tryz.ntmps48
 go_wp2_with (go_at_call 43;refine Hid.out ?_)
 refine Lib.hid ?_
 have ⟨hE,hb0,hb1,hW⟩:=al2 w (.cells #[.int .i64 s.p.n,.int .i64 s.p.t,.int .i64 s.p.r,.int .i64 s.p.d,.int .i64 s.p.b,.int .i64 s.p.g,.int .i64 s.tn,.int .i64 s.th] 82) (.cells #[.int .i64 0,.int .u64 0,.int .i64 0,.int .i64 0,.int .u64 0,.int .u64 0,.nilFunc,.pointer none] 99)
 generalize ((w.alloc (.cells #[.int .i64 s.p.n,.int .i64 s.p.t,.int .i64 s.p.r,.int .i64 s.p.d,.int .i64 s.p.b,.int .i64 s.p.g,.int .i64 s.tn,.int .i64 s.th] 82)).alloc (.cells #[.int .i64 0,.int .u64 0,.int .i64 0,.int .i64 0,.int .u64 0,.int .u64 0,.nilFunc,.pointer none] 99)) = W at hE hb0 hb1 hW ⊢
 clear hW
 refine (hr.out W).mono ?_
 rintro e w1 ⟨rfl,hx⟩
 replace hE:=ext_trans hE hx
 replace hb0:=(hx.block _ (heap_lt hb0)).trans hb0
 replace hb1:=(hx.block _ (heap_lt hb1)).trans hb1
 clear hx
 have ⟨z0,z1,z2,z3,z4,z5,z6,z7,zl⟩:=SBox.plc hb0
 replace hE:=Lib.hid hE
 replace hb0:=Lib.hid hb0
 replace hb1:=Lib.hid hb1
 go_wp2_with (go_at_call 17;refine Hid.out ?_)
 refine Lib.hid ?_
 replace hE:=hE.out
 replace hb0:=hb0.out
 replace hb1:=hb1.out
 clear z0 z1 z2 z3 z4 z5 z6 z7 zl
 refine (new_PT s.p s.th 0 N w1 hpk.out ⟨by omega,by omega⟩).mono ?_
 rintro e w2 ⟨v1,F1,rfl,hx,hp1,hbn1,hsub⟩
 have hn1:¬ F1 (w.heap.size+1):=fun h => (hsub _ h).elim (fun h => h) fun h => by have:=heap_lt hb1;omega
 have hs1:∀ j,F1 j → noF j ∨ w.heap.size ≤ j:=fun j hj => (hsub j hj).imp_right fun h => Nat.le_trans hE.size h
 replace hE:=ext_trans hE hx
 replace hb0:=(hx.block _ (heap_lt hb0)).trans hb0
 replace hb1:=(hx.block _ (heap_lt hb1)).trans hb1
 clear hx hsub
 replace hE:=Lib.hid hE
 replace hb0:=Lib.hid hb0
 replace hb1:=Lib.hid hb1
 replace hp1:=Lib.hid hp1
 replace hbn1:=Lib.hid hbn1
 replace hs1:=Lib.hid hs1
 replace hn1:=Lib.hid hn1
 go_wp2_with (go_at_call 112;refine Hid.out ?_)
 refine Lib.hid ?_
 replace hE:=hE.out
 replace hb0:=hb0.out
 replace hb1:=hb1.out
 replace hp1:=hp1.out
 replace hbn1:=hbn1.out
 replace hs1:=hs1.out
 replace hn1:=hn1.out
 refine (then_GR _ _ F1 _ v1 _ w2 hp1 (cn1_CT s w.heap.size _ hb0) hbn1 (fun j h => by subst h;exact heap_lt hb0)).mono ?_
 rintro e w' hR
 obtain ⟨v',F',rfl,hX,hp,hbn,hsub,hnF,hbq⟩:=hR.tail (G:=noF) (w.heap.size+1) hE (heap_lt hb1) (fun h => by rcases h with h | h;exact hn1 h;omega) (fun j h => by rcases h with h | h;exact (hs1 j h).imp_left False.elim;exact .inr (by omega))
 have hbx:=hbq.trans hb1
 clear hbq hR
 clear hE hb0 hb1 hp1 hbn1 hs1 hn1 hr hpk
 obtain ⟨y0,y1,a2,fn2,rfl,HFN,HX⟩:=tlR hp hX hbx hbn hsub hnF (by omega)
 obtain ⟨c0,c1,c2,c3,c4,c5,c6,c7,cz,ll⟩:=eit_of hbx
 clear hX hbx hp hbn hsub hnF
 rcases HFN.out with rfl | ⟨g',caps',rfl⟩
 all_goals
  go_wp2
  clear c0 c1 c2 c3 c4 c5 c6 c7 cz ll
  obtain ⟨hX,hB,hP⟩:=HX.out
  clear HX
  generalize (World.setCell _ (⟨w.heap.size+1,7,none⟩ : Addr) _) = Z at hX hB hP ⊢
  obtain ⟨c0,c1,c2,c3,c4,c5,c6,c7,cz,ll⟩:=eit_of hB
  exact bodyPost_ret (by simp only [results,Tryz.results48,go_sem];simp [go_sem,c0,c1,c2,c3,c4,c5,c6,c7]) rfl ⟨_,F',rfl,hX,hP⟩
theorem cnew_PT (s:Se) (N:Nat) (w:World):Calls Tryz.prog 48 #[seV s] w (RetP (PT kR (cnewT s N)) noF w):=by
 unfold cnewT
 by_cases h1:s.ok
 ·rw [if_pos h1]
  exact cnew_yes s N w (fun W => seat_yes s h1 W) h1.1
 ·rw [if_neg h1]
  exact cnew_arg s w (fun W => seat_no s h1 W)
theorem stepA_R {lo hi:Nat} {L:Lay} {M:MS} (a:Acc) (f:BitVec 64 → Tr (Rz)) (F:Nat → Prop) (v:Value) (r:Int) (e:BitVec 64) (w:World) (hP:PT kR (.ask a f) F v w) (hF:Bnd F w) (hO:∀ j,F j → j < lo ∨ hi ≤ j) (hM:MemIn lo hi L M w) (hd:DoOk M r e a.op a.at_) (x:BitVec 64) (hx0:Hid (M.wd r.toNat a.at_.toNat = x)) :
  Calls Tryz.prog 52 #[v,.pointer (some ⟨L.bm,0,none⟩),.agg #[.int .i64 r,.int .u64 (U e)]] w (RetS kR lo hi L (M.done r a.op a.at_ a.a a.b) (f x) F w):=by
 obtain ⟨g,caps,rfl,hg,hc⟩:=hP
 have HC:=Lib.hid hc
 have HM:=Lib.hid hM
 have HDO:=Lib.hid hd
 have hhi:=hM.top
 unfold Enters at hg
 clear hc hM hd
 have n0:∀ f x y w,(binOp .eql 97 (.func f x y) .nilFunc).run Tryz.prog w = .ok (.bool false) w:=fun f x y w => eql_fn w fnR f x y
 show Calls Tryz.prog 52 #[.agg #[.int .i64 0,.int .u64 0,.int .i64 a.op,.int .i64 a.at_,.int .u64 (U a.a),.int .u64 (U a.b),.func (.func g) #[] caps,.pointer none],.pointer (some ⟨L.bm,0,none⟩),.agg #[.int .i64 r,.int .u64 (U e)]] w _
 go_enter Tryz.func52,Tryz.ntmps52
 go_wp2_with (go_at_call 100;refine Hid.out ?_)
 refine Lib.hid ?_
 have hb3:=heap_at ((w.alloc (.cells #[.int .i64 0,.int .u64 0,.int .i64 a.op,.int .i64 a.at_,.int .u64 (U a.a),.int .u64 (U a.b),.func (.func g) #[] caps,.pointer none] 99)).alloc (.cells #[.int .i64 r,.int .u64 (U e)] 49)) (.cells #[.int .i64 0,.int .u64 0,.int .i64 0,.int .i64 0,.int .u64 0,.int .u64 0,.nilFunc,.pointer none] 99) (w.heap.size+1+1) (by simp)
 have hb1:=cell_at (o:=6) (heap_at w (.cells #[.int .i64 0,.int .u64 0,.int .i64 a.op,.int .i64 a.at_,.int .u64 (U a.a),.int .u64 (U a.b),.func (.func g) #[] caps,.pointer none] 99) w.heap.size rfl) rfl
 have hb1':=ext_cell (ext_alloc (.cells #[.int .i64 0,.int .u64 0,.int .i64 0,.int .i64 0,.int .u64 0,.int .u64 0,.nilFunc,.pointer none] 99) (ext_alloc (.cells #[.int .i64 r,.int .u64 (U e)] 49) (ext_refl _))) hb1
 have hEW:Ext w (((w.alloc (.cells #[.int .i64 0,.int .u64 0,.int .i64 a.op,.int .i64 a.at_,.int .u64 (U a.a),.int .u64 (U a.b),.func (.func g) #[] caps,.pointer none] 99)).alloc (.cells #[.int .i64 r,.int .u64 (U e)] 49)).alloc (.cells #[.int .i64 0,.int .u64 0,.int .i64 0,.int .i64 0,.int .u64 0,.int .u64 0,.nilFunc,.pointer none] 99)):=ext_alloc _ (ext_alloc _ (ext_alloc _ (ext_refl w)))
 have hz:(((w.alloc (.cells #[.int .i64 0,.int .u64 0,.int .i64 a.op,.int .i64 a.at_,.int .u64 (U a.a),.int .u64 (U a.b),.func (.func g) #[] caps,.pointer none] 99)).alloc (.cells #[.int .i64 r,.int .u64 (U e)] 49)).alloc (.cells #[.int .i64 0,.int .u64 0,.int .i64 0,.int .i64 0,.int .u64 0,.int .u64 0,.nilFunc,.pointer none] 99)).heap.size = w.heap.size+1+1+1:=by simp
 clear hb1
 generalize (((w.alloc (.cells #[.int .i64 0,.int .u64 0,.int .i64 a.op,.int .i64 a.at_,.int .u64 (U a.a),.int .u64 (U a.b),.func (.func g) #[] caps,.pointer none] 99)).alloc (.cells #[.int .i64 r,.int .u64 (U e)] 49)).alloc (.cells #[.int .i64 0,.int .u64 0,.int .i64 0,.int .i64 0,.int .u64 0,.int .u64 0,.nilFunc,.pointer none] 99)) = W at hb3 hb1' hEW hz ⊢
 refine (do_yes (HM.out.ext hEW) r a.op a.at_ e a.a a.b HDO.out).mono ?_
 rintro e1 w1 ⟨rfl,hm1,hf1⟩
 rw [hx0.out]
 have hs1:=hf1.size
 have k5:w1.cell? ⟨w.heap.size,6,none⟩ = some (.func (.func g) #[] caps):=by
  rw [hf1.cell (by omega) (.inr hhi)];exact hb1'
 have hb31:w1.heap[w.heap.size+1+1]? = _:=(hf1.block _ (by omega) (.inr (by omega))).trans hb3
 have HM1:=Lib.hid hm1
 have HF1:=Lib.hid ((Fr.of_ext hEW).trans hf1)
 have HB1:=Lib.hid hb31
 have HCX:=Lib.hid (HC.out x w1 (Agr.of_fr HF1.out hF hO))
 have lw1:w.heap.size < w1.heap.size:=by omega
 clear hm1 hf1 hb3 hb1' hb31 hEW HC HM HDO
 go_wp2_with (refine HCX.out.mono ?_;rintro e2 w2 ⟨v',F',rfl,hx,hp,hbn,hsub⟩;refine Hid.out ?_)
 refine Lib.hid ?_
 have hbx:=(hx.block _ (heap_lt HB1.out)).trans HB1.out
 obtain ⟨y0,y1,a2,fn2,rfl,hfn⟩:=shR hp
 have hnF:¬ F' (w.heap.size+1+1):=fun h => by
  rcases hsub _ h with h | h
  ·have:=hF _ h;omega
  ·omega
 have hX:=put8_frNew (b:=w.heap.size+1+1) (.int .i64 y0) (.int .u64 y1) (.int .i64 a2.op) (.int .i64 a2.at_) (.int .u64 (U a2.a)) (.int .u64 (U a2.b)) (fn2) (.pointer none) (HF1.out.ext hx) (by omega)
 have hMM:=put8_mem (b:=w.heap.size+1+1) (.int .i64 y0) (.int .u64 y1) (.int .i64 a2.op) (.int .i64 a2.at_) (.int .u64 (U a2.a)) (.int .u64 (U a2.b)) (fn2) (.pointer none) (HM1.out.ext hx) (by omega)
 have hB:=put8_block (.int .i64 y0) (.int .u64 y1) (.int .i64 a2.op) (.int .i64 a2.at_) (.int .u64 (U a2.a)) (.int .u64 (U a2.b)) (fn2) (.pointer none) hbx
 have hP:=hp.agr (Agr.of_put8 (b:=w.heap.size+1+1) (.int .i64 y0) (.int .u64 y1) (.int .i64 a2.op) (.int .i64 a2.at_) (.int .u64 (U a2.a)) (.int .u64 (U a2.b)) (fn2) (.pointer none) hnF)
 have hS:(put8 (w.heap.size+1+1) (.int .i64 y0) (.int .u64 y1) (.int .i64 a2.op) (.int .i64 a2.at_) (.int .u64 (U a2.a)) (.int .u64 (U a2.b)) (fn2) (.pointer none) w2).heap.size = w2.heap.size:=put8_size (.int .i64 y0) (.int .u64 y1) (.int .i64 a2.op) (.int .i64 a2.at_) (.int .u64 (U a2.a)) (.int .u64 (U a2.b)) (fn2) (.pointer none)
 obtain ⟨c0,c1,c2,c3,c4,c5,c6,c7,cz,ll⟩:=eit_of hbx
 rw [put8] at hX hB hP hS hMM
 have HX:=Lib.hid (And.intro hX (And.intro hB (And.intro hP (And.intro hS hMM))))
 have HFN:=Lib.hid hfn
 have HBN:=Lib.hid hbn
 have HSUB:=Lib.hid hsub
 clear hX hB hP hS hMM hx hbx hp hfn hbn hsub hnF HCX HB1 HM1 HF1
 rcases HFN.out with rfl | ⟨g',caps',rfl⟩
 all_goals
  go_wp2
  clear c0 c1 c2 c3 c4 c5 c6 c7 cz ll
  obtain ⟨hX,hB,hP,hS,hMM⟩:=HX.out
  clear HX
  generalize (World.setCell _ (⟨w.heap.size+1+1,7,none⟩ : Addr) _) = Z at hX hB hP hS hMM ⊢
  obtain ⟨c0,c1,c2,c3,c4,c5,c6,c7,cz,ll⟩:=eit_of hB
  exact bodyPost_ret (by simp only [results,Tryz.results52,go_sem];simp [go_sem,c0,c1,c2,c3,c4,c5,c6,c7]) rfl ⟨_,F',rfl,hP,fun j hj => by rw [hS];exact HBN.out j hj,fun j hj => (HSUB.out j hj).imp_right fun h => by omega,hMM,hX⟩
theorem stepR_R {lo hi:Nat} {L:Lay} {M:MS} (a:Acc) (f:BitVec 64 → Tr (Rz)) (F:Nat → Prop) (v:Value) (r:Int) (e:BitVec 64) (w:World) (hP:PT kR (.ask a f) F v w) (hM:MemIn lo hi L M w) (hd:¬ DoOk M r e a.op a.at_) :
  Calls Tryz.prog 52 #[v,.pointer (some ⟨L.bm,0,none⟩),.agg #[.int .i64 r,.int .u64 (U e)]] w (Ret (.tuple #[v,.bool false]) w):=by
 obtain ⟨g,caps,rfl,hg,hc⟩:=hP
 have HM:=Lib.hid hM
 have HDO:=Lib.hid hd
 have hhi:=hM.top
 clear hc hM hd hg
 have n0:∀ f x y w,(binOp .eql 97 (.func f x y) .nilFunc).run Tryz.prog w = .ok (.bool false) w:=fun f x y w => eql_fn w fnR f x y
 show Calls Tryz.prog 52 #[.agg #[.int .i64 0,.int .u64 0,.int .i64 a.op,.int .i64 a.at_,.int .u64 (U a.a),.int .u64 (U a.b),.func (.func g) #[] caps,.pointer none],.pointer (some ⟨L.bm,0,none⟩),.agg #[.int .i64 r,.int .u64 (U e)]] w _
 go_enter Tryz.func52,Tryz.ntmps52
 go_wp2_with (go_at_call 100;refine Hid.out ?_)
 refine Lib.hid ?_
 have hb3:=heap_at ((w.alloc (.cells #[.int .i64 0,.int .u64 0,.int .i64 a.op,.int .i64 a.at_,.int .u64 (U a.a),.int .u64 (U a.b),.func (.func g) #[] caps,.pointer none] 99)).alloc (.cells #[.int .i64 r,.int .u64 (U e)] 49)) (.cells #[.int .i64 0,.int .u64 0,.int .i64 0,.int .i64 0,.int .u64 0,.int .u64 0,.nilFunc,.pointer none] 99) (w.heap.size+1+1) (by simp)
 have hb1:(((w.alloc (.cells #[.int .i64 0,.int .u64 0,.int .i64 a.op,.int .i64 a.at_,.int .u64 (U a.a),.int .u64 (U a.b),.func (.func g) #[] caps,.pointer none] 99)).alloc (.cells #[.int .i64 r,.int .u64 (U e)] 49)).alloc (.cells #[.int .i64 0,.int .u64 0,.int .i64 0,.int .i64 0,.int .u64 0,.int .u64 0,.nilFunc,.pointer none] 99)).heap[w.heap.size]? = some (.cells #[.int .i64 0,.int .u64 0,.int .i64 a.op,.int .i64 a.at_,.int .u64 (U a.a),.int .u64 (U a.b),.func (.func g) #[] caps,.pointer none] 99):=by
  rw [Below.heap_alloc _ _ _ (by simp;omega),Below.heap_alloc _ _ _ (by simp)]
  exact heap_at w _ _ rfl
 have hEW:Ext w (((w.alloc (.cells #[.int .i64 0,.int .u64 0,.int .i64 a.op,.int .i64 a.at_,.int .u64 (U a.a),.int .u64 (U a.b),.func (.func g) #[] caps,.pointer none] 99)).alloc (.cells #[.int .i64 r,.int .u64 (U e)] 49)).alloc (.cells #[.int .i64 0,.int .u64 0,.int .i64 0,.int .i64 0,.int .u64 0,.int .u64 0,.nilFunc,.pointer none] 99)):=ext_alloc _ (ext_alloc _ (ext_alloc _ (ext_refl w)))
 generalize (((w.alloc (.cells #[.int .i64 0,.int .u64 0,.int .i64 a.op,.int .i64 a.at_,.int .u64 (U a.a),.int .u64 (U a.b),.func (.func g) #[] caps,.pointer none] 99)).alloc (.cells #[.int .i64 r,.int .u64 (U e)] 49)).alloc (.cells #[.int .i64 0,.int .u64 0,.int .i64 0,.int .i64 0,.int .u64 0,.int .u64 0,.nilFunc,.pointer none] 99)) = W at hb3 hb1 hEW ⊢
 refine (do_no (HM.out.ext hEW) r a.op a.at_ e a.a a.b HDO.out).mono ?_
 rintro e1 w1 ⟨rfl,hx⟩
 have hb31:=(hx.block _ (heap_lt hb3)).trans hb3
 have hb11:=(hx.block _ (heap_lt hb1)).trans hb1
 obtain ⟨c0,c1,c2,c3,c4,c5,c6,c7,cz,ll⟩:=eit_of hb31
 obtain ⟨d0,d1,d2,d3,d4,d5,d6,d7,dz,dl⟩:=eit_of hb11
 have hX:=put8_ext (b:=w.heap.size+1+1) (.int .i64 0) (.int .u64 0) (.int .i64 a.op) (.int .i64 a.at_) (.int .u64 (U a.a)) (.int .u64 (U a.b)) (.func (.func g) #[] caps) (.pointer none) (ext_trans hEW hx) (by omega)
 have hB:=put8_block (.int .i64 0) (.int .u64 0) (.int .i64 a.op) (.int .i64 a.at_) (.int .u64 (U a.a)) (.int .u64 (U a.b)) (.func (.func g) #[] caps) (.pointer none) hb31
 rw [put8] at hX hB
 have HX:=Lib.hid hX
 have HB:=Lib.hid hB
 clear hX hB hb3 hb1 hEW hx hb31 hb11
 go_wp2
 replace HX:=HX.out
 replace HB:=HB.out
 clear c0 c1 c2 c3 c4 c5 c6 c7 cz ll
 generalize (World.setCell _ (⟨w.heap.size+1+1,7,none⟩ : Addr) _) = Z at HB HX ⊢
 obtain ⟨c0,c1,c2,c3,c4,c5,c6,c7,cz,ll⟩:=eit_of HB
 exact bodyPost_ret (by simp only [results,Tryz.results52,go_sem];simp [go_sem,c0,c1,c2,c3,c4,c5,c6,c7,kR,vS2,at3]) rfl (Ret.mk HX)
theorem stepD_R (x:Rz) (F:Nat → Prop) (v mv:Value) (r:Int) (e:BitVec 64) (w:World) (hP:PT kR (.done x) F v w) :
  Calls Tryz.prog 52 #[v,mv,.agg #[.int .i64 r,.int .u64 (U e)]] w (Ret (.tuple #[v,.bool false]) w):=by
 cases hP
 have n0:∀ w,(binOp .eql 97 .nilFunc .nilFunc).run Tryz.prog w = .ok (.bool true) w:=fun w => eql_nil w fnR
 show Calls Tryz.prog 52 #[.agg #[.int .i64 x.e,.int .u64 (U x.v),.int .i64 accZ.op,.int .i64 accZ.at_,.int .u64 (U accZ.a),.int .u64 (U accZ.b),.nilFunc,.pointer none],mv,.agg #[.int .i64 r,.int .u64 (U e)]] w _
 go_enter Tryz.func52,Tryz.ntmps52
 go_wp2
 exact bodyPost_ret (by simp only [results,Tryz.results52,go_sem];simp [go_sem,kR,vS2,at3]) rfl (Ret.mk (ext_alloc _ (ext_alloc _ (ext_alloc _ (ext_refl w)))))
theorem over_R (t:Tr (Rz)) (F:Nat → Prop) (v:Value) (w:World) (hP:PT kR t F v w) (y0 y1:Int) (b:Bool) (hy:Hid (ansT kR t = .agg #[.int .i64 y0,.int .u64 y1])) (hb:Hid (ovT t = b)):Calls Tryz.prog 45 #[v] w (Ret (.tuple #[.agg #[.int .i64 y0,.int .u64 y1],.bool b]) w):=by
 rw [← hb.out,← hy.out]
 cases t with
 | done x => cases hP;exact overYR x.e (U x.v) _ _ _ _ w
 | ask a f => obtain ⟨g,caps,rfl,_⟩:=hP;exact ovnR a _ _ _ w
 | more => obtain ⟨a,g,caps,rfl,_⟩:=hP;exact ovnR a _ _ _ w
theorem ans_R (t:Tr (Rz)):∃ y0 y1,ansT kR t = .agg #[.int .i64 y0,.int .u64 y1]:=by
 cases t with
 | done x => exact ⟨_,_,rfl⟩
 | ask a f => exact ⟨_,_,rfl⟩
 | more => exact ⟨_,_,rfl⟩
theorem stay_R {lo hi:Nat} {L:Lay} {M:MS} (t:Tr (Rz)) (F:Nat → Prop) (v:Value) (r:Int) (e:BitVec 64) (w:World) (hP:PT kR t F v w) (hM:MemIn lo hi L M w) (hs:Stays r e M t) :
  Calls Tryz.prog 52 #[v,.pointer (some ⟨L.bm,0,none⟩),.agg #[.int .i64 r,.int .u64 (U e)]] w (Ret (.tuple #[v,.bool false]) w):=by
 cases t with
 | done x => exact stepD_R x F v _ r e w hP
 | ask a f => exact stepR_R a f F v r e w hP hM hs
 | more => exact hs.elim
end Go.Proofs.YthjklbonebnekaaGreat

