/-
  What the calls of Step and Over come to (R). Conditions: those of each theorem.
-/
import Derived.Test.YthjklbonebnekaaGreatGav
import Derived.Test.YthjklbonebnekaaGreatGbg
set_option maxRecDepth 8000
set_option maxHeartbeats 4000000
namespace Go.Proofs.YthjklbonebnekaaGreat
open Go Go.RowKit
theorem stepA_R {lo hi:Nat} {L:Lay} {M:MS} (a:Acc) (f:BitVec 64 → Tr (Rz)) (F:Nat → Prop) (v:Value) (r:Int) (e:BitVec 64) (w:World) (hP:PT kR (.ask a f) F v w) (hF:Bnd F w) (hO:∀ j,F j → j < lo ∨ hi ≤ j) (hM:MemIn lo hi L M w) (hd:DoOk M r e a.op a.at_) (x:BitVec 64) (hx0:Hid (M.wd r.toNat a.at_.toNat = x)) :
  Calls Tryz.prog 52 #[v,.pointer (some ⟨L.bm,0,none⟩),.agg #[.int .i64 r,.int .u64 (U e)]] w (RetS kR lo hi L (M.done r a.op a.at_ a.a a.b) (f x) F w):=by
 obtain ⟨g,caps,rfl,hg,hc⟩:=hP
 have HC:=Lib.hid hc
 have HM:=Lib.hid hM
 have HDO:=Lib.hid hd
 have hhi:=hM.top
 unfold Enters at hg
 clear hc hM hd
 have n0:∀ f x y w,(binOp .eql 97 (.func f x y) .nilFunc).run Tryz.prog w = .ok (.bool false) w:=fun f x y w => eql_fn w fnR f x y
 show Calls Tryz.prog 52 #[.agg #[.int .i64 0,.int .u64 0,.int .i64 a.op,.int .i64 a.at_,.int .u64 (U a.a),.int .u64 (U a.b),.func (.func g) #[] caps,.pointer none],.pointer (some ⟨L.bm,0,none⟩),.agg #[.int .i64 r,.int .u64 (U e)]] w _
 go_enter Tryz.func52,Tryz.ntmps52
 go_wp2_with (go_at_call 100;refine Hid.out ?_)
 refine Lib.hid ?_
 have hb3:=heap_at ((w.alloc (.cells #[.int .i64 0,.int .u64 0,.int .i64 a.op,.int .i64 a.at_,.int .u64 (U a.a),.int .u64 (U a.b),.func (.func g) #[] caps,.pointer none] 99)).alloc (.cells #[.int .i64 r,.int .u64 (U e)] 49)) (.cells #[.int .i64 0,.int .u64 0,.int .i64 0,.int .i64 0,.int .u64 0,.int .u64 0,.nilFunc,.pointer none] 99) (w.heap.size+1+1) (by simp)
 have hb1:=cell_at (o:=6) (heap_at w (.cells #[.int .i64 0,.int .u64 0,.int .i64 a.op,.int .i64 a.at_,.int .u64 (U a.a),.int .u64 (U a.b),.func (.func g) #[] caps,.pointer none] 99) w.heap.size rfl) rfl
 have hb1':=ext_cell (ext_alloc (.cells #[.int .i64 0,.int .u64 0,.int .i64 0,.int .i64 0,.int .u64 0,.int .u64 0,.nilFunc,.pointer none] 99) (ext_alloc (.cells #[.int .i64 r,.int .u64 (U e)] 49) (ext_refl _))) hb1
 have hEW:Ext w (((w.alloc (.cells #[.int .i64 0,.int .u64 0,.int .i64 a.op,.int .i64 a.at_,.int .u64 (U a.a),.int .u64 (U a.b),.func (.func g) #[] caps,.pointer none] 99)).alloc (.cells #[.int .i64 r,.int .u64 (U e)] 49)).alloc (.cells #[.int .i64 0,.int .u64 0,.int .i64 0,.int .i64 0,.int .u64 0,.int .u64 0,.nilFunc,.pointer none] 99)):=ext_alloc _ (ext_alloc _ (ext_alloc _ (ext_refl w)))
 have hz:(((w.alloc (.cells #[.int .i64 0,.int .u64 0,.int .i64 a.op,.int .i64 a.at_,.int .u64 (U a.a),.int .u64 (U a.b),.func (.func g) #[] caps,.pointer none] 99)).alloc (.cells #[.int .i64 r,.int .u64 (U e)] 49)).alloc (.cells #[.int .i64 0,.int .u64 0,.int .i64 0,.int .i64 0,.int .u64 0,.int .u64 0,.nilFunc,.pointer none] 99)).heap.size = w.heap.size+1+1+1:=by simp
 clear hb1
 generalize (((w.alloc (.cells #[.int .i64 0,.int .u64 0,.int .i64 a.op,.int .i64 a.at_,.int .u64 (U a.a),.int .u64 (U a.b),.func (.func g) #[] caps,.pointer none] 99)).alloc (.cells #[.int .i64 r,.int .u64 (U e)] 49)).alloc (.cells #[.int .i64 0,.int .u64 0,.int .i64 0,.int .i64 0,.int .u64 0,.int .u64 0,.nilFunc,.pointer none] 99)) = W at hb3 hb1' hEW hz ⊢
 refine (do_yes (HM.out.ext hEW) r a.op a.at_ e a.a a.b HDO.out).mono ?_
 rintro e1 w1 ⟨rfl,hm1,hf1⟩
 rw [hx0.out]
 have hs1:=hf1.size
 have k5:w1.cell? ⟨w.heap.size,6,none⟩ = some (.func (.func g) #[] caps):=by
  rw [hf1.cell (by omega) (.inr hhi)];exact hb1'
 have hb31:w1.heap[w.heap.size+1+1]? = _:=(hf1.block _ (by omega) (.inr (by omega))).trans hb3
 have HM1:=Lib.hid hm1
 have HF1:=Lib.hid ((Fr.of_ext hEW).trans hf1)
 have HB1:=Lib.hid hb31
 have HCX:=Lib.hid (HC.out x w1 (Agr.of_fr HF1.out hF hO))
 have lw1:w.heap.size < w1.heap.size:=by omega
 clear hm1 hf1 hb3 hb1' hb31 hEW HC HM HDO
 go_wp2_with (refine HCX.out.mono ?_;rintro e2 w2 ⟨v',F',rfl,hx,hp,hbn,hsub⟩;refine Hid.out ?_)
 refine Lib.hid ?_
 have hbx:=(hx.block _ (heap_lt HB1.out)).trans HB1.out
 obtain ⟨y0,y1,a2,fn2,rfl,hfn⟩:=shR hp
 have hnF:¬ F' (w.heap.size+1+1):=fun h => by
  rcases hsub _ h with h | h
  ·have:=hF _ h;omega
  ·omega
 have hX:=put8_frNew (b:=w.heap.size+1+1) (.int .i64 y0) (.int .u64 y1) (.int .i64 a2.op) (.int .i64 a2.at_) (.int .u64 (U a2.a)) (.int .u64 (U a2.b)) (fn2) (.pointer none) (HF1.out.ext hx) (by omega)
 have hMM:=put8_mem (b:=w.heap.size+1+1) (.int .i64 y0) (.int .u64 y1) (.int .i64 a2.op) (.int .i64 a2.at_) (.int .u64 (U a2.a)) (.int .u64 (U a2.b)) (fn2) (.pointer none) (HM1.out.ext hx) (by omega)
 have hB:=put8_block (.int .i64 y0) (.int .u64 y1) (.int .i64 a2.op) (.int .i64 a2.at_) (.int .u64 (U a2.a)) (.int .u64 (U a2.b)) (fn2) (.pointer none) hbx
 have hP:=hp.agr (Agr.of_put8 (b:=w.heap.size+1+1) (.int .i64 y0) (.int .u64 y1) (.int .i64 a2.op) (.int .i64 a2.at_) (.int .u64 (U a2.a)) (.int .u64 (U a2.b)) (fn2) (.pointer none) hnF)
 have hS:(put8 (w.heap.size+1+1) (.int .i64 y0) (.int .u64 y1) (.int .i64 a2.op) (.int .i64 a2.at_) (.int .u64 (U a2.a)) (.int .u64 (U a2.b)) (fn2) (.pointer none) w2).heap.size = w2.heap.size:=put8_size (.int .i64 y0) (.int .u64 y1) (.int .i64 a2.op) (.int .i64 a2.at_) (.int .u64 (U a2.a)) (.int .u64 (U a2.b)) (fn2) (.pointer none)
 obtain ⟨c0,c1,c2,c3,c4,c5,c6,c7,cz,ll⟩:=eit_of hbx
 rw [put8] at hX hB hP hS hMM
 have HX:=Lib.hid (And.intro hX (And.intro hB (And.intro hP (And.intro hS hMM))))
 have HFN:=Lib.hid hfn
 have HBN:=Lib.hid hbn
 have HSUB:=Lib.hid hsub
 clear hX hB hP hS hMM hx hbx hp hfn hbn hsub hnF HCX HB1 HM1 HF1
 rcases HFN.out with rfl | ⟨g',caps',rfl⟩
 all_goals
  go_wp2
  clear c0 c1 c2 c3 c4 c5 c6 c7 cz ll
  obtain ⟨hX,hB,hP,hS,hMM⟩:=HX.out
  clear HX
  generalize (World.setCell _ (⟨w.heap.size+1+1,7,none⟩ : Addr) _) = Z at hX hB hP hS hMM ⊢
  obtain ⟨c0,c1,c2,c3,c4,c5,c6,c7,cz,ll⟩:=eit_of hB
  exact bodyPost_ret (by simp only [results,Tryz.results52,go_sem];simp [go_sem,c0,c1,c2,c3,c4,c5,c6,c7]) rfl ⟨_,F',rfl,hP,fun j hj => by rw [hS];exact HBN.out j hj,fun j hj => (HSUB.out j hj).imp_right fun h => by omega,hMM,hX⟩
theorem stepR_R {lo hi:Nat} {L:Lay} {M:MS} (a:Acc) (f:BitVec 64 → Tr (Rz)) (F:Nat → Prop) (v:Value) (r:Int) (e:BitVec 64) (w:World) (hP:PT kR (.ask a f) F v w) (hM:MemIn lo hi L M w) (hd:¬ DoOk M r e a.op a.at_) :
  Calls Tryz.prog 52 #[v,.pointer (some ⟨L.bm,0,none⟩),.agg #[.int .i64 r,.int .u64 (U e)]] w (Ret (.tuple #[v,.bool false]) w):=by
 obtain ⟨g,caps,rfl,hg,hc⟩:=hP
 have HM:=Lib.hid hM
 have HDO:=Lib.hid hd
 have hhi:=hM.top
 clear hc hM hd hg
 have n0:∀ f x y w,(binOp .eql 97 (.func f x y) .nilFunc).run Tryz.prog w = .ok (.bool false) w:=fun f x y w => eql_fn w fnR f x y
 show Calls Tryz.prog 52 #[.agg #[.int .i64 0,.int .u64 0,.int .i64 a.op,.int .i64 a.at_,.int .u64 (U a.a),.int .u64 (U a.b),.func (.func g) #[] caps,.pointer none],.pointer (some ⟨L.bm,0,none⟩),.agg #[.int .i64 r,.int .u64 (U e)]] w _
 go_enter Tryz.func52,Tryz.ntmps52
 go_wp2_with (go_at_call 100;refine Hid.out ?_)
 refine Lib.hid ?_
 have hb3:=heap_at ((w.alloc (.cells #[.int .i64 0,.int .u64 0,.int .i64 a.op,.int .i64 a.at_,.int .u64 (U a.a),.int .u64 (U a.b),.func (.func g) #[] caps,.pointer none] 99)).alloc (.cells #[.int .i64 r,.int .u64 (U e)] 49)) (.cells #[.int .i64 0,.int .u64 0,.int .i64 0,.int .i64 0,.int .u64 0,.int .u64 0,.nilFunc,.pointer none] 99) (w.heap.size+1+1) (by simp)
 have hb1:(((w.alloc (.cells #[.int .i64 0,.int .u64 0,.int .i64 a.op,.int .i64 a.at_,.int .u64 (U a.a),.int .u64 (U a.b),.func (.func g) #[] caps,.pointer none] 99)).alloc (.cells #[.int .i64 r,.int .u64 (U e)] 49)).alloc (.cells #[.int .i64 0,.int .u64 0,.int .i64 0,.int .i64 0,.int .u64 0,.int .u64 0,.nilFunc,.pointer none] 99)).heap[w.heap.size]? = some (.cells #[.int .i64 0,.int .u64 0,.int .i64 a.op,.int .i64 a.at_,.int .u64 (U a.a),.int .u64 (U a.b),.func (.func g) #[] caps,.pointer none] 99):=by
  rw [Below.heap_alloc _ _ _ (by simp;omega),Below.heap_alloc _ _ _ (by simp)]
  exact heap_at w _ _ rfl
 have hEW:Ext w (((w.alloc (.cells #[.int .i64 0,.int .u64 0,.int .i64 a.op,.int .i64 a.at_,.int .u64 (U a.a),.int .u64 (U a.b),.func (.func g) #[] caps,.pointer none] 99)).alloc (.cells #[.int .i64 r,.int .u64 (U e)] 49)).alloc (.cells #[.int .i64 0,.int .u64 0,.int .i64 0,.int .i64 0,.int .u64 0,.int .u64 0,.nilFunc,.pointer none] 99)):=ext_alloc _ (ext_alloc _ (ext_alloc _ (ext_refl w)))
 generalize (((w.alloc (.cells #[.int .i64 0,.int .u64 0,.int .i64 a.op,.int .i64 a.at_,.int .u64 (U a.a),.int .u64 (U a.b),.func (.func g) #[] caps,.pointer none] 99)).alloc (.cells #[.int .i64 r,.int .u64 (U e)] 49)).alloc (.cells #[.int .i64 0,.int .u64 0,.int .i64 0,.int .i64 0,.int .u64 0,.int .u64 0,.nilFunc,.pointer none] 99)) = W at hb3 hb1 hEW ⊢
 refine (do_no (HM.out.ext hEW) r a.op a.at_ e a.a a.b HDO.out).mono ?_
 rintro e1 w1 ⟨rfl,hx⟩
 have hb31:=(hx.block _ (heap_lt hb3)).trans hb3
 have hb11:=(hx.block _ (heap_lt hb1)).trans hb1
 obtain ⟨c0,c1,c2,c3,c4,c5,c6,c7,cz,ll⟩:=eit_of hb31
 obtain ⟨d0,d1,d2,d3,d4,d5,d6,d7,dz,dl⟩:=eit_of hb11
 have hX:=put8_ext (b:=w.heap.size+1+1) (.int .i64 0) (.int .u64 0) (.int .i64 a.op) (.int .i64 a.at_) (.int .u64 (U a.a)) (.int .u64 (U a.b)) (.func (.func g) #[] caps) (.pointer none) (ext_trans hEW hx) (by omega)
 have hB:=put8_block (.int .i64 0) (.int .u64 0) (.int .i64 a.op) (.int .i64 a.at_) (.int .u64 (U a.a)) (.int .u64 (U a.b)) (.func (.func g) #[] caps) (.pointer none) hb31
 rw [put8] at hX hB
 have HX:=Lib.hid hX
 have HB:=Lib.hid hB
 clear hX hB hb3 hb1 hEW hx hb31 hb11
 go_wp2
 replace HX:=HX.out
 replace HB:=HB.out
 clear c0 c1 c2 c3 c4 c5 c6 c7 cz ll
 generalize (World.setCell _ (⟨w.heap.size+1+1,7,none⟩ : Addr) _) = Z at HB HX ⊢
 obtain ⟨c0,c1,c2,c3,c4,c5,c6,c7,cz,ll⟩:=eit_of HB
 exact bodyPost_ret (by simp only [results,Tryz.results52,go_sem];simp [go_sem,c0,c1,c2,c3,c4,c5,c6,c7,kR,vS2,at3]) rfl (Ret.mk HX)
theorem stepD_R (x:Rz) (F:Nat → Prop) (v mv:Value) (r:Int) (e:BitVec 64) (w:World) (hP:PT kR (.done x) F v w) :
  Calls Tryz.prog 52 #[v,mv,.agg #[.int .i64 r,.int .u64 (U e)]] w (Ret (.tuple #[v,.bool false]) w):=by
 cases hP
 have n0:∀ w,(binOp .eql 97 .nilFunc .nilFunc).run Tryz.prog w = .ok (.bool true) w:=fun w => eql_nil w fnR
 show Calls Tryz.prog 52 #[.agg #[.int .i64 x.e,.int .u64 (U x.v),.int .i64 accZ.op,.int .i64 accZ.at_,.int .u64 (U accZ.a),.int .u64 (U accZ.b),.nilFunc,.pointer none],mv,.agg #[.int .i64 r,.int .u64 (U e)]] w _
 go_enter Tryz.func52,Tryz.ntmps52
 go_wp2
 exact bodyPost_ret (by simp only [results,Tryz.results52,go_sem];simp [go_sem,kR,vS2,at3]) rfl (Ret.mk (ext_alloc _ (ext_alloc _ (ext_alloc _ (ext_refl w)))))
theorem over_R (t:Tr (Rz)) (F:Nat → Prop) (v:Value) (w:World) (hP:PT kR t F v w) (y0 y1:Int) (b:Bool) (hy:Hid (ansT kR t = .agg #[.int .i64 y0,.int .u64 y1])) (hb:Hid (ovT t = b)):Calls Tryz.prog 45 #[v] w (Ret (.tuple #[.agg #[.int .i64 y0,.int .u64 y1],.bool b]) w):=by
 rw [← hb.out,← hy.out]
 cases t with
 | done x => cases hP;exact overYR x.e (U x.v) _ _ _ _ w
 | ask a f => obtain ⟨g,caps,rfl,_⟩:=hP;exact ovnR a _ _ _ w
 | more => obtain ⟨a,g,caps,rfl,_⟩:=hP;exact ovnR a _ _ _ w
theorem ans_R (t:Tr (Rz)):∃ y0 y1,ansT kR t = .agg #[.int .i64 y0,.int .u64 y1]:=by
 cases t with
 | done x => exact ⟨_,_,rfl⟩
 | ask a f => exact ⟨_,_,rfl⟩
 | more => exact ⟨_,_,rfl⟩
theorem stay_R {lo hi:Nat} {L:Lay} {M:MS} (t:Tr (Rz)) (F:Nat → Prop) (v:Value) (r:Int) (e:BitVec 64) (w:World) (hP:PT kR t F v w) (hM:MemIn lo hi L M w) (hs:Stays r e M t) :
  Calls Tryz.prog 52 #[v,.pointer (some ⟨L.bm,0,none⟩),.agg #[.int .i64 r,.int .u64 (U e)]] w (Ret (.tuple #[v,.bool false]) w):=by
 cases t with
 | done x => exact stepD_R x F v _ r e w hP
 | ask a f => exact stepR_R a f F v r e w hP hM hs
 | more => exact hs.elim
structure RunN_R (lo hi:Nat) (L:Lay) (r:Int) (e:BitVec 64) (x:MS × Nat × Tr Rz) (m:Nat) (B:Nat) (w:World) (n:Nat) (t:Tr Rz) (M:MS) (v:Value) (F:Nat → Prop) (wr:World):Prop where
 km:n ≤ m
 res:∃ y,runT r e (m - n) t M = some y ∧ x = (y.1,y.2.1+n,y.2.2)
 p:PT kR t F v wr
 bnd:Bnd F wr
 off:∀ j,F j → (j < lo ∨ hi ≤ j) ∧ j ≠ B ∧ j ≠ B+1+1
 mem:MemIn lo hi L M wr
 fr:Fr lo hi w wr
 box:∃ (y0 y1:Int) (a:Acc) (fn:Value),v = .agg #[.int .i64 y0,.int .u64 y1,.int .i64 a.op,.int .i64 a.at_,.int .u64 (U a.a),.int .u64 (U a.b),fn,.pointer none] ∧ (fn = .nilFunc ∨ ∃ g caps,fn = .func (.func g) #[] caps) ∧ wr.heap[B]? = some (.cells #[.int .i64 y0,.int .u64 y1,.int .i64 a.op,.int .i64 a.at_,.int .u64 (U a.a),.int .u64 (U a.b),fn,.pointer none] 99)
 cap:wr.heap[B+1]? = some (.cells #[.int .i64 r,.int .u64 (U e)] 49)
 rb:wr.heap[B+1+1]? = some (.cells #[.int .i64 0,.int .u64 0] 94)
def RunL_R (lo hi:Nat) (L:Lay) (r:Int) (e:BitVec 64) (x:MS × Nat × Tr Rz) (m:Nat) (B:Nat) (w:World) (i:Value) (wr:World):Prop:=
 ∃ (n:Nat) (t:Tr Rz) (M:MS) (v:Value) (F:Nat → Prop),i = .int .i64 (n:Int) ∧ RunN_R lo hi L r e x m B w n t M v F wr
theorem run_R {lo hi:Nat} {L:Lay} {M:MS} (t:Tr Rz) (F:Nat → Prop) (v:Value) (r:Int) (e:BitVec 64) (most:Int) (w:World) (x:MS × Nat × Tr Rz) (hmo:most ≤ 1099511627776) (hx:runT r e most.toNat t M = some x) (hP:PT kR t F v w) (hF:Bnd F w) (hO:∀ j,F j → j < lo ∨ hi ≤ j) (hM:MemIn lo hi L M w) :
  Calls Tryz.prog 37 #[v,.pointer (some ⟨L.bm,0,none⟩),.agg #[.int .i64 r,.int .u64 (U e)],.int .i64 most] w (RetR kR lo hi L x w):=by
 have HP:=Lib.hid hP
 have HM:=Lib.hid hM
 have hhi:=hM.top
 obtain ⟨y0,y1,a,fn,rfl,hfn⟩:=shR hP
 have HFN:=Lib.hid hfn
 clear hfn hP hM
 have HI:Hid (RunN_R lo hi L r e x most.toNat w.heap.size w 0 t M (.agg #[.int .i64 y0,.int .u64 y1,.int .i64 a.op,.int .i64 a.at_,.int .u64 (U a.a),.int .u64 (U a.b),fn,.pointer none]) F (((w.alloc (.cells #[.int .i64 y0,.int .u64 y1,.int .i64 a.op,.int .i64 a.at_,.int .u64 (U a.a),.int .u64 (U a.b),fn,.pointer none] 99)).alloc (.cells #[.int .i64 r,.int .u64 (U e)] 49)).alloc (.cells #[.int .i64 0,.int .u64 0] 94))):=by
  refine Lib.hid ⟨Nat.zero_le _,⟨x,hx,rfl⟩,?_,?_,fun j hj => ⟨hO j hj,fun h => by have:=hF j hj;omega,fun h => by have:=hF j hj;omega⟩,?_,?_,⟨y0,y1,a,fn,rfl,HFN.out,?_⟩,?_,?_⟩
  ·exact HP.out.agr (Agr.of_ext (by repeat (first | exact ext_refl _ | apply ext_alloc)) hF)
  ·exact hF.ext (by simp;omega)
  ·exact HM.out.ext (by repeat (first | exact ext_refl _ | apply ext_alloc))
  ·exact .of_ext (by repeat (first | exact ext_refl _ | apply ext_alloc))
  ·rw [Below.heap_alloc _ _ _ (by simp;omega),Below.heap_alloc _ _ _ (by simp)]
   exact heap_at w _ _ rfl
  ·exact (Below.heap_alloc _ _ _ (by simp)).trans (heap_at _ _ _ (by simp))
  ·exact heap_at _ _ _ (by simp)
 clear HP HM hF hO hx
 go_enter Tryz.func37,Tryz.ntmps37
 go_wp2
 go_loopw [11] (fun i wr => RunL_R lo hi L r e x most.toNat w.heap.size w i wr) (fun i _ => (most - intOf i).toNat)
 case atStart => exact ⟨0,_,_,_,_,rfl,HI.out⟩
 case round =>
  obtain ⟨n,t',M',v,F',rfl,hR⟩:=hrel
  have HR:=Lib.hid hR
  obtain ⟨y0,y1,a,fn,rfl,hfn1,hblk⟩:=hR.box
  have HFN1:=Lib.hid hfn1
  have HBK:=Lib.hid hblk
  obtain ⟨c0,c1,c2,c3,c4,c5,c6,c7,cz,ll⟩:=eit_of hblk
  have cp0:=cell_at (o:=0) hR.cap rfl
  have cp1:=cell_at (o:=1) hR.cap rfl
  have lp:=heap_lt hR.cap
  have hsz:=hR.fr.size
  have hkm:=hR.km
  clear hR hfn1 hblk HI HFN
  by_cases hlt:(n:Int) < most
  ·by_cases hst:Stays r e M' t'
   ·have hE:x = (M',n,t'):=by
     obtain ⟨y',h1,h2⟩:=HR.out.res
     rw [runT_stays hst] at h1
     cases h1
     simpa using h2
    have HE:=Lib.hid hE
    have HST:=Lib.hid hst
    clear hE hst
    obtain ⟨z0,z1,hz1⟩:=ans_R t'
    have HZ1:=Lib.hid hz1
    clear hz1
    rcases HFN1.out with rfl | ⟨g',caps',rfl⟩
    all_goals
     go_wp2_with (first
      | (go_at_call 52;refine (stay_R t' F' _ r e _ HR.out.p HR.out.mem HST.out).mono ?_;rintro e1 w0 ⟨rfl,hx⟩;have HX:=Lib.hid hx;clear hx;have c0:=ext_cell HX.out c0;have c1:=ext_cell HX.out c1;have c2:=ext_cell HX.out c2;have c3:=ext_cell HX.out c3;have c4:=ext_cell HX.out c4;have c5:=ext_cell HX.out c5;have c6:=ext_cell HX.out c6;have c7:=ext_cell HX.out c7;have ll1:=Nat.lt_of_lt_of_le ll HX.out.size)
      | (go_at_call 45;refine (over_R t' F' _ _ (HR.out.p.agr (Agr.of_ext (ext_trans HX.out (by repeat (first | exact ext_refl _ | apply ext_alloc))) HR.out.bnd)) z0 z1 _ HZ1 (Lib.hid rfl)).mono ?_;rintro e1 w1 ⟨rfl,hx⟩;replace hx:=ext_trans (ext_trans HX.out (by repeat (first | exact ext_refl _ | apply ext_alloc))) hx;refine Hid.out ?_))
     refine Lib.hid ?_
     have hMZ:=HR.out.mem.ext (by first | exact hx | exact ext_trans hx (by repeat (first | exact ext_refl _ | apply ext_alloc)))
     have hFZ:=HR.out.fr.ext (by first | exact hx | exact ext_trans hx (by repeat (first | exact ext_refl _ | apply ext_alloc)))
     have hxe:Ext wr w1:=(by first | exact hx | exact ext_trans hx (by repeat (first | exact ext_refl _ | apply ext_alloc)))
     have hRB:=(hxe.block _ (heap_lt HR.out.rb)).trans HR.out.rb
     have r0:=cell_at (o:=0) hRB rfl
     have r1:=cell_at (o:=1) hRB rfl
     have rz:∀ o,w1.frozen? ⟨w.heap.size+1+1,o,none⟩ = false:=fun _ => free_at hRB
     have rl:=heap_lt hRB
     have hZ:∀ o,RetR kR lo hi L x w (.returned (.tuple #[.agg #[.int .i64 z0,.int .u64 z1],.int .i64 (n:Int),.bool (ovT t')])) ((put2 (w.heap.size+1+1) (.int .i64 z0) (.int .u64 z1) w1).alloc o):=fun o => by
      rw [HE.out]
      exact ⟨by rw [← HZ1.out],(put2_mem _ _ hMZ (by omega)).alloc o,(put2_frNew _ _ hFZ (by omega)).alloc o⟩
     have hZB:∀ o,((put2 (w.heap.size+1+1) (.int .i64 z0) (.int .u64 z1) w1).alloc o).heap[w.heap.size+1+1]? = some (.cells #[.int .i64 z0,.int .u64 z1] 94):=fun o => (Below.heap_alloc _ _ _ (by rw [put2_size];exact rl)).trans (put2_block _ _ hRB)
     rw [put2] at hZ hZB
     have HZ:=Lib.hid hZ
     have HZB:=Lib.hid hZB
     clear hZ hZB hMZ hFZ hRB hx hxe
     go_wp2
     clear r0 r1 rz rl c0 c1 c2 c3 c4 c5 c6 c7 cz
     replace HZ:=HZ.out (.cells #[.int .i64 z0,.int .u64 z1] 94)
     replace HZB:=HZB.out (.cells #[.int .i64 z0,.int .u64 z1] 94)
     generalize (World.alloc _ (.cells #[.int .i64 z0,.int .u64 z1] 94)) = Z at HZ HZB ⊢
     have r0:=cell_at (o:=0) HZB rfl
     have r1:=cell_at (o:=1) HZB rfl
     exact bodyPost_ret (v:=.tuple #[.agg #[.int .i64 z0,.int .u64 z1],.int .i64 (n:Int),.bool (ovT t')]) (by simp [results,Tryz.results37,go_sem,r0,r1]) rfl HZ
   ·have hE:∃ a f,t' = .ask a f ∧ DoOk M' r e a.op a.at_:=by
     obtain ⟨y',h1,h2⟩:=HR.out.res
     rw [show most.toNat - n = (most.toNat - (n+1))+1 by omega] at h1
     cases t' with
     | done x => exact (hst trivial).elim
     | ask a f => exact ⟨a,f,rfl,by by_cases hd:DoOk M' r e a.op a.at_;exact hd;exact (hst hd).elim⟩
     | more => simp [runT] at h1
    obtain ⟨a3,f3,rfl,hd⟩:=hE
    have HD:=Lib.hid hd
    obtain ⟨x3,hx3⟩ : ∃ x3,Hid (M'.wd r.toNat a3.at_.toNat = x3):=⟨_,Lib.hid rfl⟩
    clear hd hst
    go_wp2_with (go_at_call 52;refine (stepA_R a3 f3 F' _ r e _ HR.out.p HR.out.bnd (fun j hj => (HR.out.off j hj).1) HR.out.mem HD.out x3 hx3).mono ?_;rintro e1 w1 ⟨v2,F2,rfl,hp,hbn,hsub,hm,hf⟩;refine Hid.out ?_)
    refine Lib.hid ?_
    have hs1:=hf.size
    have hB1:=(hf.block _ ll (.inr hhi)).trans HBK.out
    have hC1:=(hf.block _ lp (.inr (by omega))).trans HR.out.cap
    have hD1:=(hf.block _ (heap_lt HR.out.rb) (.inr (by omega))).trans HR.out.rb
    obtain ⟨y20,y21,a2,fn2,rfl,hfn2⟩:=shR hp
    have HFN2:=Lib.hid hfn2
    clear c0 c1 c2 c3 c4 c5 c6 c7 cz cp0 cp1 hfn2
    obtain ⟨c0,c1,c2,c3,c4,c5,c6,c7,cz,ll1⟩:=eit_of hB1
    have HS:Hid (∀ o,RunN_R lo hi L r e x most.toNat w.heap.size w (n+1) (f3 x3) (M'.done r a3.op a3.at_ a3.a a3.b) (.agg #[.int .i64 y20,.int .u64 y21,.int .i64 a2.op,.int .i64 a2.at_,.int .u64 (U a2.a),.int .u64 (U a2.b),fn2,.pointer none]) F2 ((put8 w.heap.size (.int .i64 y20) (.int .u64 y21) (.int .i64 a2.op) (.int .i64 a2.at_) (.int .u64 (U a2.a)) (.int .u64 (U a2.b)) (fn2) (.pointer none) w1).alloc o)):=by
     refine Lib.hid fun o => ⟨by omega,?_,?_,?_,?_,?_,?_,⟨y20,y21,a2,fn2,rfl,HFN2.out,?_⟩,?_,?_⟩
     ·obtain ⟨y',h1,h2⟩:=HR.out.res
      rw [show most.toNat - n = (most.toNat - (n+1))+1 by omega,runT,if_pos HD.out,hx3.out] at h1
      obtain ⟨y3,h3,h4⟩:=Option.map_eq_some_iff.1 h1
      subst h4
      exact ⟨y3,h3,by rw [h2];simp;omega⟩
     ·have hnB:¬ F2 w.heap.size:=fun h => by
       rcases hsub _ h with h | h
       ·exact (HR.out.off _ h).2.1 rfl
       ·omega
      exact (hp.agr (Agr.of_put8 _ _ _ _ _ _ _ _ hnB)).agr (Agr.of_ext (ext_alloc o (ext_refl _)) (hbn.ext (by rw [put8_size];exact Nat.le_refl _)))
     ·exact hbn.ext (by simp [put8_size])
     ·intro j hj
      rcases hsub j hj with h | h
      ·exact HR.out.off j h
      ·have:=heap_lt HR.out.rb
       exact ⟨.inr (by omega),by omega,by omega⟩
     ·exact (put8_mem _ _ _ _ _ _ _ _ hm hhi).alloc o
     ·exact (put8_frNew _ _ _ _ _ _ _ _ (HR.out.fr.trans hf) (Nat.le_refl _)).alloc o
     ·exact (Below.heap_alloc _ _ _ (by rw [put8_size];exact ll1)).trans (put8_block _ _ _ _ _ _ _ _ hB1)
     ·rw [Below.heap_alloc _ _ _ (by rw [put8_size];exact heap_lt hC1),put8_other _ _ _ _ _ _ _ _ (by omega)]
      exact hC1
     ·rw [Below.heap_alloc _ _ _ (by rw [put8_size];exact heap_lt hD1),put8_other _ _ _ _ _ _ _ _ (by omega)]
      exact hD1
    rw [put8] at HS
    clear hp hm hf hB1 hC1 hD1 HD hbn hsub
    rcases HFN2.out with rfl | ⟨g',caps',rfl⟩
    all_goals
     go_wp2
     exact ⟨⟨n+1,_,_,_,_,by go_num,HS.out _⟩,by simp [intOf];omega⟩
  ·have hE:x = (M',n,t'):=by
    obtain ⟨y',h1,h2⟩:=HR.out.res
    rw [show most.toNat - n = 0 by omega,runT] at h1
    cases h1
    simpa using h2
   have HE:=Lib.hid hE
   clear hE
   obtain ⟨z0,z1,hz1⟩:=ans_R t'
   have HZ1:=Lib.hid hz1
   clear hz1
   rcases HFN1.out with rfl | ⟨g',caps',rfl⟩
   all_goals
    go_wp2_with (go_at_call 45;refine (over_R t' F' _ _ HR.out.p z0 z1 _ HZ1 (Lib.hid rfl)).mono ?_;rintro e1 w1 ⟨rfl,hx⟩;refine Hid.out ?_)
    refine Lib.hid ?_
    have hMZ:=HR.out.mem.ext (by first | exact hx | exact ext_trans hx (by repeat (first | exact ext_refl _ | apply ext_alloc)))
    have hFZ:=HR.out.fr.ext (by first | exact hx | exact ext_trans hx (by repeat (first | exact ext_refl _ | apply ext_alloc)))
    have hxe:Ext wr w1:=(by first | exact hx | exact ext_trans hx (by repeat (first | exact ext_refl _ | apply ext_alloc)))
    have hRB:=(hxe.block _ (heap_lt HR.out.rb)).trans HR.out.rb
    have r0:=cell_at (o:=0) hRB rfl
    have r1:=cell_at (o:=1) hRB rfl
    have rz:∀ o,w1.frozen? ⟨w.heap.size+1+1,o,none⟩ = false:=fun _ => free_at hRB
    have rl:=heap_lt hRB
    have hZ:∀ o,RetR kR lo hi L x w (.returned (.tuple #[.agg #[.int .i64 z0,.int .u64 z1],.int .i64 (n:Int),.bool (ovT t')])) ((put2 (w.heap.size+1+1) (.int .i64 z0) (.int .u64 z1) w1).alloc o):=fun o => by
     rw [HE.out]
     exact ⟨by rw [← HZ1.out],(put2_mem _ _ hMZ (by omega)).alloc o,(put2_frNew _ _ hFZ (by omega)).alloc o⟩
    have hZB:∀ o,((put2 (w.heap.size+1+1) (.int .i64 z0) (.int .u64 z1) w1).alloc o).heap[w.heap.size+1+1]? = some (.cells #[.int .i64 z0,.int .u64 z1] 94):=fun o => (Below.heap_alloc _ _ _ (by rw [put2_size];exact rl)).trans (put2_block _ _ hRB)
    rw [put2] at hZ hZB
    have HZ:=Lib.hid hZ
    have HZB:=Lib.hid hZB
    clear hZ hZB hMZ hFZ hRB hx hxe
    go_wp2
    clear r0 r1 rz rl c0 c1 c2 c3 c4 c5 c6 c7 cz
    replace HZ:=HZ.out (.cells #[.int .i64 z0,.int .u64 z1] 94)
    replace HZB:=HZB.out (.cells #[.int .i64 z0,.int .u64 z1] 94)
    generalize (World.alloc _ (.cells #[.int .i64 z0,.int .u64 z1] 94)) = Z at HZ HZB ⊢
    have r0:=cell_at (o:=0) HZB rfl
    have r1:=cell_at (o:=1) HZB rfl
    exact bodyPost_ret (v:=.tuple #[.agg #[.int .i64 z0,.int .u64 z1],.int .i64 (n:Int),.bool (ovT t')]) (by simp [results,Tryz.results37,go_sem,r0,r1]) rfl HZ
end Go.Proofs.YthjklbonebnekaaGreat

