/-
  What the calls of Step and Over come to. Conditions: those of each theorem.
-/
import Derived.Test.YthjklbonebnekaaGreatGaf
set_option maxRecDepth 8000
set_option maxHeartbeats 4000000
namespace Go.Proofs.YthjklbonebnekaaGreat
open Go Go.RowKit
def RetS {α:Type} (k:Kd α) (lo hi:Nat) (L:Lay) (M':MS) (t:Tr α) (F:Nat → Prop) (w:World) (e:Ending) (w':World):Prop:=
 ∃ v F',e = .returned (.tuple #[v,.bool true]) ∧ PT k t F' v w' ∧ Bnd F' w' ∧ (∀ j,F' j → F j ∨ w.heap.size ≤ j) ∧ MemIn lo hi L M' w' ∧ Fr lo hi w w'
def ansT {α:Type} (k:Kd α):Tr α → Value
 | .done r => k.enc r
 | _ => k.z
def ovT {α:Type}:Tr α → Bool
 | .done _ => true
 | _ => false
def Stays {α:Type} (r:Int) (e:BitVec 64) (M:MS):Tr α → Prop
 | .done _ => True
 | .ask a _ => ¬ DoOk M r e a.op a.at_
 | .more => False
theorem runT_stays {α:Type} {r:Int} {e:BitVec 64} {M:MS} {t:Tr α} (h:Stays r e M t) (n:Nat):runT r e n t M = some (M,0,t):=by
 cases n with
 | zero => rfl
 | succ n =>
  cases t with
  | done x => rfl
  | ask a f => rw [runT,if_neg h]
  | more => exact h.elim
theorem stepA_I {lo hi:Nat} {L:Lay} {M:MS} (a:Acc) (f:BitVec 64 → Tr (Int)) (F:Nat → Prop) (v:Value) (r:Int) (e:BitVec 64) (w:World) (hP:PT kI (.ask a f) F v w) (hF:Bnd F w) (hO:∀ j,F j → j < lo ∨ hi ≤ j) (hM:MemIn lo hi L M w) (hd:DoOk M r e a.op a.at_) (x:BitVec 64) (hx0:Hid (M.wd r.toNat a.at_.toNat = x)) :
  Calls Tryz.prog 83 #[v,.pointer (some ⟨L.bm,0,none⟩),.agg #[.int .i64 r,.int .u64 (U e)]] w (RetS kI lo hi L (M.done r a.op a.at_ a.a a.b) (f x) F w):=by
 obtain ⟨g,caps,rfl,hg,hc⟩:=hP
 have HC:=Lib.hid hc
 have HM:=Lib.hid hM
 have HDO:=Lib.hid hd
 have hhi:=hM.top
 unfold Enters at hg
 clear hc hM hd
 have n0:∀ f x y w,(binOp .eql 60 (.func f x y) .nilFunc).run Tryz.prog w = .ok (.bool false) w:=fun f x y w => eql_fn w fnI f x y
 show Calls Tryz.prog 83 #[.agg #[.int .i64 0,.int .i64 a.op,.int .i64 a.at_,.int .u64 (U a.a),.int .u64 (U a.b),.func (.func g) #[] caps,.pointer none],.pointer (some ⟨L.bm,0,none⟩),.agg #[.int .i64 r,.int .u64 (U e)]] w _
 go_enter Tryz.func83,Tryz.ntmps83
 go_wp2_with (go_at_call 100;refine Hid.out ?_)
 refine Lib.hid ?_
 have hb3:=heap_at ((w.alloc (.cells #[.int .i64 0,.int .i64 a.op,.int .i64 a.at_,.int .u64 (U a.a),.int .u64 (U a.b),.func (.func g) #[] caps,.pointer none] 62)).alloc (.cells #[.int .i64 r,.int .u64 (U e)] 49)) (.cells #[.int .i64 0,.int .i64 0,.int .i64 0,.int .u64 0,.int .u64 0,.nilFunc,.pointer none] 62) (w.heap.size+1+1) (by simp)
 have hb1:=cell_at (o:=5) (heap_at w (.cells #[.int .i64 0,.int .i64 a.op,.int .i64 a.at_,.int .u64 (U a.a),.int .u64 (U a.b),.func (.func g) #[] caps,.pointer none] 62) w.heap.size rfl) rfl
 have hb1':=ext_cell (ext_alloc (.cells #[.int .i64 0,.int .i64 0,.int .i64 0,.int .u64 0,.int .u64 0,.nilFunc,.pointer none] 62) (ext_alloc (.cells #[.int .i64 r,.int .u64 (U e)] 49) (ext_refl _))) hb1
 have hEW:Ext w (((w.alloc (.cells #[.int .i64 0,.int .i64 a.op,.int .i64 a.at_,.int .u64 (U a.a),.int .u64 (U a.b),.func (.func g) #[] caps,.pointer none] 62)).alloc (.cells #[.int .i64 r,.int .u64 (U e)] 49)).alloc (.cells #[.int .i64 0,.int .i64 0,.int .i64 0,.int .u64 0,.int .u64 0,.nilFunc,.pointer none] 62)):=ext_alloc _ (ext_alloc _ (ext_alloc _ (ext_refl w)))
 have hz:(((w.alloc (.cells #[.int .i64 0,.int .i64 a.op,.int .i64 a.at_,.int .u64 (U a.a),.int .u64 (U a.b),.func (.func g) #[] caps,.pointer none] 62)).alloc (.cells #[.int .i64 r,.int .u64 (U e)] 49)).alloc (.cells #[.int .i64 0,.int .i64 0,.int .i64 0,.int .u64 0,.int .u64 0,.nilFunc,.pointer none] 62)).heap.size = w.heap.size+1+1+1:=by simp
 clear hb1
 generalize (((w.alloc (.cells #[.int .i64 0,.int .i64 a.op,.int .i64 a.at_,.int .u64 (U a.a),.int .u64 (U a.b),.func (.func g) #[] caps,.pointer none] 62)).alloc (.cells #[.int .i64 r,.int .u64 (U e)] 49)).alloc (.cells #[.int .i64 0,.int .i64 0,.int .i64 0,.int .u64 0,.int .u64 0,.nilFunc,.pointer none] 62)) = W at hb3 hb1' hEW hz ⊢
 refine (do_yes (HM.out.ext hEW) r a.op a.at_ e a.a a.b HDO.out).mono ?_
 rintro e1 w1 ⟨rfl,hm1,hf1⟩
 rw [hx0.out]
 have hs1:=hf1.size
 have k5:w1.cell? ⟨w.heap.size,5,none⟩ = some (.func (.func g) #[] caps):=by
  rw [hf1.cell (by omega) (.inr hhi)];exact hb1'
 have hb31:w1.heap[w.heap.size+1+1]? = _:=(hf1.block _ (by omega) (.inr (by omega))).trans hb3
 have HM1:=Lib.hid hm1
 have HF1:=Lib.hid ((Fr.of_ext hEW).trans hf1)
 have HB1:=Lib.hid hb31
 have HCX:=Lib.hid (HC.out x w1 (Agr.of_fr HF1.out hF hO))
 have lw1:w.heap.size < w1.heap.size:=by omega
 clear hm1 hf1 hb3 hb1' hb31 hEW HC HM HDO
 go_wp2_with (refine HCX.out.mono ?_;rintro e2 w2 ⟨v',F',rfl,hx,hp,hbn,hsub⟩;refine Hid.out ?_)
 refine Lib.hid ?_
 have hbx:=(hx.block _ (heap_lt HB1.out)).trans HB1.out
 obtain ⟨y,a2,fn2,rfl,hfn⟩:=shI hp
 have hnF:¬ F' (w.heap.size+1+1):=fun h => by
  rcases hsub _ h with h | h
  ·have:=hF _ h;omega
  ·omega
 have hX:=put7_frNew (b:=w.heap.size+1+1) (.int .i64 y) (.int .i64 a2.op) (.int .i64 a2.at_) (.int .u64 (U a2.a)) (.int .u64 (U a2.b)) (fn2) (.pointer none) (HF1.out.ext hx) (by omega)
 have hMM:=put7_mem (b:=w.heap.size+1+1) (.int .i64 y) (.int .i64 a2.op) (.int .i64 a2.at_) (.int .u64 (U a2.a)) (.int .u64 (U a2.b)) (fn2) (.pointer none) (HM1.out.ext hx) (by omega)
 have hB:=put7_block (.int .i64 y) (.int .i64 a2.op) (.int .i64 a2.at_) (.int .u64 (U a2.a)) (.int .u64 (U a2.b)) (fn2) (.pointer none) hbx
 have hP:=hp.agr (Agr.of_put7 (b:=w.heap.size+1+1) (.int .i64 y) (.int .i64 a2.op) (.int .i64 a2.at_) (.int .u64 (U a2.a)) (.int .u64 (U a2.b)) (fn2) (.pointer none) hnF)
 have hS:(put7 (w.heap.size+1+1) (.int .i64 y) (.int .i64 a2.op) (.int .i64 a2.at_) (.int .u64 (U a2.a)) (.int .u64 (U a2.b)) (fn2) (.pointer none) w2).heap.size = w2.heap.size:=put7_size (.int .i64 y) (.int .i64 a2.op) (.int .i64 a2.at_) (.int .u64 (U a2.a)) (.int .u64 (U a2.b)) (fn2) (.pointer none)
 obtain ⟨c0,c1,c2,c3,c4,c5,c6,cz,ll⟩:=sev_of hbx
 rw [put7] at hX hB hP hS hMM
 have HX:=Lib.hid (And.intro hX (And.intro hB (And.intro hP (And.intro hS hMM))))
 have HFN:=Lib.hid hfn
 have HBN:=Lib.hid hbn
 have HSUB:=Lib.hid hsub
 clear hX hB hP hS hMM hx hbx hp hfn hbn hsub hnF HCX HB1 HM1 HF1
 rcases HFN.out with rfl | ⟨g',caps',rfl⟩
 all_goals
  go_wp2
  clear c0 c1 c2 c3 c4 c5 c6 cz ll
  obtain ⟨hX,hB,hP,hS,hMM⟩:=HX.out
  clear HX
  generalize (World.setCell _ (⟨w.heap.size+1+1,6,none⟩ : Addr) _) = Z at hX hB hP hS hMM ⊢
  obtain ⟨c0,c1,c2,c3,c4,c5,c6,cz,ll⟩:=sev_of hB
  exact bodyPost_ret (by simp only [results,Tryz.results83,go_sem];simp [go_sem,c0,c1,c2,c3,c4,c5,c6]) rfl ⟨_,F',rfl,hP,fun j hj => by rw [hS];exact HBN.out j hj,fun j hj => (HSUB.out j hj).imp_right fun h => by omega,hMM,hX⟩
theorem stepR_I {lo hi:Nat} {L:Lay} {M:MS} (a:Acc) (f:BitVec 64 → Tr (Int)) (F:Nat → Prop) (v:Value) (r:Int) (e:BitVec 64) (w:World) (hP:PT kI (.ask a f) F v w) (hM:MemIn lo hi L M w) (hd:¬ DoOk M r e a.op a.at_) :
  Calls Tryz.prog 83 #[v,.pointer (some ⟨L.bm,0,none⟩),.agg #[.int .i64 r,.int .u64 (U e)]] w (Ret (.tuple #[v,.bool false]) w):=by
 obtain ⟨g,caps,rfl,hg,hc⟩:=hP
 have HM:=Lib.hid hM
 have HDO:=Lib.hid hd
 have hhi:=hM.top
 clear hc hM hd hg
 have n0:∀ f x y w,(binOp .eql 60 (.func f x y) .nilFunc).run Tryz.prog w = .ok (.bool false) w:=fun f x y w => eql_fn w fnI f x y
 show Calls Tryz.prog 83 #[.agg #[.int .i64 0,.int .i64 a.op,.int .i64 a.at_,.int .u64 (U a.a),.int .u64 (U a.b),.func (.func g) #[] caps,.pointer none],.pointer (some ⟨L.bm,0,none⟩),.agg #[.int .i64 r,.int .u64 (U e)]] w _
 go_enter Tryz.func83,Tryz.ntmps83
 go_wp2_with (go_at_call 100;refine Hid.out ?_)
 refine Lib.hid ?_
 have hb3:=heap_at ((w.alloc (.cells #[.int .i64 0,.int .i64 a.op,.int .i64 a.at_,.int .u64 (U a.a),.int .u64 (U a.b),.func (.func g) #[] caps,.pointer none] 62)).alloc (.cells #[.int .i64 r,.int .u64 (U e)] 49)) (.cells #[.int .i64 0,.int .i64 0,.int .i64 0,.int .u64 0,.int .u64 0,.nilFunc,.pointer none] 62) (w.heap.size+1+1) (by simp)
 have hb1:(((w.alloc (.cells #[.int .i64 0,.int .i64 a.op,.int .i64 a.at_,.int .u64 (U a.a),.int .u64 (U a.b),.func (.func g) #[] caps,.pointer none] 62)).alloc (.cells #[.int .i64 r,.int .u64 (U e)] 49)).alloc (.cells #[.int .i64 0,.int .i64 0,.int .i64 0,.int .u64 0,.int .u64 0,.nilFunc,.pointer none] 62)).heap[w.heap.size]? = some (.cells #[.int .i64 0,.int .i64 a.op,.int .i64 a.at_,.int .u64 (U a.a),.int .u64 (U a.b),.func (.func g) #[] caps,.pointer none] 62):=by
  rw [Below.heap_alloc _ _ _ (by simp;omega),Below.heap_alloc _ _ _ (by simp)]
  exact heap_at w _ _ rfl
 have hEW:Ext w (((w.alloc (.cells #[.int .i64 0,.int .i64 a.op,.int .i64 a.at_,.int .u64 (U a.a),.int .u64 (U a.b),.func (.func g) #[] caps,.pointer none] 62)).alloc (.cells #[.int .i64 r,.int .u64 (U e)] 49)).alloc (.cells #[.int .i64 0,.int .i64 0,.int .i64 0,.int .u64 0,.int .u64 0,.nilFunc,.pointer none] 62)):=ext_alloc _ (ext_alloc _ (ext_alloc _ (ext_refl w)))
 generalize (((w.alloc (.cells #[.int .i64 0,.int .i64 a.op,.int .i64 a.at_,.int .u64 (U a.a),.int .u64 (U a.b),.func (.func g) #[] caps,.pointer none] 62)).alloc (.cells #[.int .i64 r,.int .u64 (U e)] 49)).alloc (.cells #[.int .i64 0,.int .i64 0,.int .i64 0,.int .u64 0,.int .u64 0,.nilFunc,.pointer none] 62)) = W at hb3 hb1 hEW ⊢
 refine (do_no (HM.out.ext hEW) r a.op a.at_ e a.a a.b HDO.out).mono ?_
 rintro e1 w1 ⟨rfl,hx⟩
 have hb31:=(hx.block _ (heap_lt hb3)).trans hb3
 have hb11:=(hx.block _ (heap_lt hb1)).trans hb1
 obtain ⟨c0,c1,c2,c3,c4,c5,c6,cz,ll⟩:=sev_of hb31
 obtain ⟨d0,d1,d2,d3,d4,d5,d6,dz,dl⟩:=sev_of hb11
 have hX:=put7_ext (b:=w.heap.size+1+1) (.int .i64 0) (.int .i64 a.op) (.int .i64 a.at_) (.int .u64 (U a.a)) (.int .u64 (U a.b)) (.func (.func g) #[] caps) (.pointer none) (ext_trans hEW hx) (by omega)
 have hB:=put7_block (.int .i64 0) (.int .i64 a.op) (.int .i64 a.at_) (.int .u64 (U a.a)) (.int .u64 (U a.b)) (.func (.func g) #[] caps) (.pointer none) hb31
 rw [put7] at hX hB
 have HX:=Lib.hid hX
 have HB:=Lib.hid hB
 clear hX hB hb3 hb1 hEW hx hb31 hb11
 go_wp2
 replace HX:=HX.out
 replace HB:=HB.out
 clear c0 c1 c2 c3 c4 c5 c6 cz ll
 generalize (World.setCell _ (⟨w.heap.size+1+1,6,none⟩ : Addr) _) = Z at HB HX ⊢
 obtain ⟨c0,c1,c2,c3,c4,c5,c6,cz,ll⟩:=sev_of HB
 exact bodyPost_ret (by simp only [results,Tryz.results83,go_sem];simp [go_sem,c0,c1,c2,c3,c4,c5,c6,kI,vS]) rfl (Ret.mk HX)
theorem stepA_N {lo hi:Nat} {L:Lay} {M:MS} (a:Acc) (f:BitVec 64 → Tr (Unit)) (F:Nat → Prop) (v:Value) (r:Int) (e:BitVec 64) (w:World) (hP:PT kN (.ask a f) F v w) (hF:Bnd F w) (hO:∀ j,F j → j < lo ∨ hi ≤ j) (hM:MemIn lo hi L M w) (hd:DoOk M r e a.op a.at_) (x:BitVec 64) (hx0:Hid (M.wd r.toNat a.at_.toNat = x)) :
  Calls Tryz.prog 134 #[v,.pointer (some ⟨L.bm,0,none⟩),.agg #[.int .i64 r,.int .u64 (U e)]] w (RetS kN lo hi L (M.done r a.op a.at_ a.a a.b) (f x) F w):=by
 obtain ⟨g,caps,rfl,hg,hc⟩:=hP
 have HC:=Lib.hid hc
 have HM:=Lib.hid hM
 have HDO:=Lib.hid hd
 have hhi:=hM.top
 unfold Enters at hg
 clear hc hM hd
 have n0:∀ f x y w,(binOp .eql 135 (.func f x y) .nilFunc).run Tryz.prog w = .ok (.bool false) w:=fun f x y w => eql_fn w fnN f x y
 show Calls Tryz.prog 134 #[.agg #[.int .i64 a.op,.int .i64 a.at_,.int .u64 (U a.a),.int .u64 (U a.b),.func (.func g) #[] caps,.pointer none],.pointer (some ⟨L.bm,0,none⟩),.agg #[.int .i64 r,.int .u64 (U e)]] w _
 go_enter Tryz.func134,Tryz.ntmps134
 go_wp2_with (go_at_call 100;refine Hid.out ?_)
 refine Lib.hid ?_
 have hb3:=heap_at ((w.alloc (.cells #[.int .i64 a.op,.int .i64 a.at_,.int .u64 (U a.a),.int .u64 (U a.b),.func (.func g) #[] caps,.pointer none] 137)).alloc (.cells #[.int .i64 r,.int .u64 (U e)] 49)) (.cells #[.int .i64 0,.int .i64 0,.int .u64 0,.int .u64 0,.nilFunc,.pointer none] 137) (w.heap.size+1+1) (by simp)
 have hb1:=cell_at (o:=4) (heap_at w (.cells #[.int .i64 a.op,.int .i64 a.at_,.int .u64 (U a.a),.int .u64 (U a.b),.func (.func g) #[] caps,.pointer none] 137) w.heap.size rfl) rfl
 have hb1':=ext_cell (ext_alloc (.cells #[.int .i64 0,.int .i64 0,.int .u64 0,.int .u64 0,.nilFunc,.pointer none] 137) (ext_alloc (.cells #[.int .i64 r,.int .u64 (U e)] 49) (ext_refl _))) hb1
 have hEW:Ext w (((w.alloc (.cells #[.int .i64 a.op,.int .i64 a.at_,.int .u64 (U a.a),.int .u64 (U a.b),.func (.func g) #[] caps,.pointer none] 137)).alloc (.cells #[.int .i64 r,.int .u64 (U e)] 49)).alloc (.cells #[.int .i64 0,.int .i64 0,.int .u64 0,.int .u64 0,.nilFunc,.pointer none] 137)):=ext_alloc _ (ext_alloc _ (ext_alloc _ (ext_refl w)))
 have hz:(((w.alloc (.cells #[.int .i64 a.op,.int .i64 a.at_,.int .u64 (U a.a),.int .u64 (U a.b),.func (.func g) #[] caps,.pointer none] 137)).alloc (.cells #[.int .i64 r,.int .u64 (U e)] 49)).alloc (.cells #[.int .i64 0,.int .i64 0,.int .u64 0,.int .u64 0,.nilFunc,.pointer none] 137)).heap.size = w.heap.size+1+1+1:=by simp
 clear hb1
 generalize (((w.alloc (.cells #[.int .i64 a.op,.int .i64 a.at_,.int .u64 (U a.a),.int .u64 (U a.b),.func (.func g) #[] caps,.pointer none] 137)).alloc (.cells #[.int .i64 r,.int .u64 (U e)] 49)).alloc (.cells #[.int .i64 0,.int .i64 0,.int .u64 0,.int .u64 0,.nilFunc,.pointer none] 137)) = W at hb3 hb1' hEW hz ⊢
 refine (do_yes (HM.out.ext hEW) r a.op a.at_ e a.a a.b HDO.out).mono ?_
 rintro e1 w1 ⟨rfl,hm1,hf1⟩
 rw [hx0.out]
 have hs1:=hf1.size
 have k5:w1.cell? ⟨w.heap.size,4,none⟩ = some (.func (.func g) #[] caps):=by
  rw [hf1.cell (by omega) (.inr hhi)];exact hb1'
 have hb31:w1.heap[w.heap.size+1+1]? = _:=(hf1.block _ (by omega) (.inr (by omega))).trans hb3
 have HM1:=Lib.hid hm1
 have HF1:=Lib.hid ((Fr.of_ext hEW).trans hf1)
 have HB1:=Lib.hid hb31
 have HCX:=Lib.hid (HC.out x w1 (Agr.of_fr HF1.out hF hO))
 have lw1:w.heap.size < w1.heap.size:=by omega
 clear hm1 hf1 hb3 hb1' hb31 hEW HC HM HDO
 go_wp2_with (refine HCX.out.mono ?_;rintro e2 w2 ⟨v',F',rfl,hx,hp,hbn,hsub⟩;refine Hid.out ?_)
 refine Lib.hid ?_
 have hbx:=(hx.block _ (heap_lt HB1.out)).trans HB1.out
 obtain ⟨a2,fn2,rfl,hfn⟩:=shN hp
 have hnF:¬ F' (w.heap.size+1+1):=fun h => by
  rcases hsub _ h with h | h
  ·have:=hF _ h;omega
  ·omega
 have hX:=put6_frNew (b:=w.heap.size+1+1) (.int .i64 a2.op) (.int .i64 a2.at_) (.int .u64 (U a2.a)) (.int .u64 (U a2.b)) (fn2) (.pointer none) (HF1.out.ext hx) (by omega)
 have hMM:=put6_mem (b:=w.heap.size+1+1) (.int .i64 a2.op) (.int .i64 a2.at_) (.int .u64 (U a2.a)) (.int .u64 (U a2.b)) (fn2) (.pointer none) (HM1.out.ext hx) (by omega)
 have hB:=put6_block (.int .i64 a2.op) (.int .i64 a2.at_) (.int .u64 (U a2.a)) (.int .u64 (U a2.b)) (fn2) (.pointer none) hbx
 have hP:=hp.agr (Agr.of_put6 (b:=w.heap.size+1+1) (.int .i64 a2.op) (.int .i64 a2.at_) (.int .u64 (U a2.a)) (.int .u64 (U a2.b)) (fn2) (.pointer none) hnF)
 have hS:(put6 (w.heap.size+1+1) (.int .i64 a2.op) (.int .i64 a2.at_) (.int .u64 (U a2.a)) (.int .u64 (U a2.b)) (fn2) (.pointer none) w2).heap.size = w2.heap.size:=put6_size (.int .i64 a2.op) (.int .i64 a2.at_) (.int .u64 (U a2.a)) (.int .u64 (U a2.b)) (fn2) (.pointer none)
 obtain ⟨c0,c1,c2,c3,c4,c5,cz,ll⟩:=six_of hbx
 rw [put6] at hX hB hP hS hMM
 have HX:=Lib.hid (And.intro hX (And.intro hB (And.intro hP (And.intro hS hMM))))
 have HFN:=Lib.hid hfn
 have HBN:=Lib.hid hbn
 have HSUB:=Lib.hid hsub
 clear hX hB hP hS hMM hx hbx hp hfn hbn hsub hnF HCX HB1 HM1 HF1
 rcases HFN.out with rfl | ⟨g',caps',rfl⟩
 all_goals
  go_wp2
  clear c0 c1 c2 c3 c4 c5 cz ll
  obtain ⟨hX,hB,hP,hS,hMM⟩:=HX.out
  clear HX
  generalize (World.setCell _ (⟨w.heap.size+1+1,5,none⟩ : Addr) _) = Z at hX hB hP hS hMM ⊢
  obtain ⟨c0,c1,c2,c3,c4,c5,cz,ll⟩:=six_of hB
  exact bodyPost_ret (by simp only [results,Tryz.results134,go_sem];simp [go_sem,c0,c1,c2,c3,c4,c5]) rfl ⟨_,F',rfl,hP,fun j hj => by rw [hS];exact HBN.out j hj,fun j hj => (HSUB.out j hj).imp_right fun h => by omega,hMM,hX⟩
theorem stepR_N {lo hi:Nat} {L:Lay} {M:MS} (a:Acc) (f:BitVec 64 → Tr (Unit)) (F:Nat → Prop) (v:Value) (r:Int) (e:BitVec 64) (w:World) (hP:PT kN (.ask a f) F v w) (hM:MemIn lo hi L M w) (hd:¬ DoOk M r e a.op a.at_) :
  Calls Tryz.prog 134 #[v,.pointer (some ⟨L.bm,0,none⟩),.agg #[.int .i64 r,.int .u64 (U e)]] w (Ret (.tuple #[v,.bool false]) w):=by
 obtain ⟨g,caps,rfl,hg,hc⟩:=hP
 have HM:=Lib.hid hM
 have HDO:=Lib.hid hd
 have hhi:=hM.top
 clear hc hM hd hg
 have n0:∀ f x y w,(binOp .eql 135 (.func f x y) .nilFunc).run Tryz.prog w = .ok (.bool false) w:=fun f x y w => eql_fn w fnN f x y
 show Calls Tryz.prog 134 #[.agg #[.int .i64 a.op,.int .i64 a.at_,.int .u64 (U a.a),.int .u64 (U a.b),.func (.func g) #[] caps,.pointer none],.pointer (some ⟨L.bm,0,none⟩),.agg #[.int .i64 r,.int .u64 (U e)]] w _
 go_enter Tryz.func134,Tryz.ntmps134
 go_wp2_with (go_at_call 100;refine Hid.out ?_)
 refine Lib.hid ?_
 have hb3:=heap_at ((w.alloc (.cells #[.int .i64 a.op,.int .i64 a.at_,.int .u64 (U a.a),.int .u64 (U a.b),.func (.func g) #[] caps,.pointer none] 137)).alloc (.cells #[.int .i64 r,.int .u64 (U e)] 49)) (.cells #[.int .i64 0,.int .i64 0,.int .u64 0,.int .u64 0,.nilFunc,.pointer none] 137) (w.heap.size+1+1) (by simp)
 have hb1:(((w.alloc (.cells #[.int .i64 a.op,.int .i64 a.at_,.int .u64 (U a.a),.int .u64 (U a.b),.func (.func g) #[] caps,.pointer none] 137)).alloc (.cells #[.int .i64 r,.int .u64 (U e)] 49)).alloc (.cells #[.int .i64 0,.int .i64 0,.int .u64 0,.int .u64 0,.nilFunc,.pointer none] 137)).heap[w.heap.size]? = some (.cells #[.int .i64 a.op,.int .i64 a.at_,.int .u64 (U a.a),.int .u64 (U a.b),.func (.func g) #[] caps,.pointer none] 137):=by
  rw [Below.heap_alloc _ _ _ (by simp;omega),Below.heap_alloc _ _ _ (by simp)]
  exact heap_at w _ _ rfl
 have hEW:Ext w (((w.alloc (.cells #[.int .i64 a.op,.int .i64 a.at_,.int .u64 (U a.a),.int .u64 (U a.b),.func (.func g) #[] caps,.pointer none] 137)).alloc (.cells #[.int .i64 r,.int .u64 (U e)] 49)).alloc (.cells #[.int .i64 0,.int .i64 0,.int .u64 0,.int .u64 0,.nilFunc,.pointer none] 137)):=ext_alloc _ (ext_alloc _ (ext_alloc _ (ext_refl w)))
 generalize (((w.alloc (.cells #[.int .i64 a.op,.int .i64 a.at_,.int .u64 (U a.a),.int .u64 (U a.b),.func (.func g) #[] caps,.pointer none] 137)).alloc (.cells #[.int .i64 r,.int .u64 (U e)] 49)).alloc (.cells #[.int .i64 0,.int .i64 0,.int .u64 0,.int .u64 0,.nilFunc,.pointer none] 137)) = W at hb3 hb1 hEW ⊢
 refine (do_no (HM.out.ext hEW) r a.op a.at_ e a.a a.b HDO.out).mono ?_
 rintro e1 w1 ⟨rfl,hx⟩
 have hb31:=(hx.block _ (heap_lt hb3)).trans hb3
 have hb11:=(hx.block _ (heap_lt hb1)).trans hb1
 obtain ⟨c0,c1,c2,c3,c4,c5,cz,ll⟩:=six_of hb31
 obtain ⟨d0,d1,d2,d3,d4,d5,dz,dl⟩:=six_of hb11
 have hX:=put6_ext (b:=w.heap.size+1+1) (.int .i64 a.op) (.int .i64 a.at_) (.int .u64 (U a.a)) (.int .u64 (U a.b)) (.func (.func g) #[] caps) (.pointer none) (ext_trans hEW hx) (by omega)
 have hB:=put6_block (.int .i64 a.op) (.int .i64 a.at_) (.int .u64 (U a.a)) (.int .u64 (U a.b)) (.func (.func g) #[] caps) (.pointer none) hb31
 rw [put6] at hX hB
 have HX:=Lib.hid hX
 have HB:=Lib.hid hB
 clear hX hB hb3 hb1 hEW hx hb31 hb11
 go_wp2
 replace HX:=HX.out
 replace HB:=HB.out
 clear c0 c1 c2 c3 c4 c5 cz ll
 generalize (World.setCell _ (⟨w.heap.size+1+1,5,none⟩ : Addr) _) = Z at HB HX ⊢
 obtain ⟨c0,c1,c2,c3,c4,c5,cz,ll⟩:=six_of HB
 exact bodyPost_ret (by simp only [results,Tryz.results134,go_sem];simp [go_sem,c0,c1,c2,c3,c4,c5,kN,vS0]) rfl (Ret.mk HX)
theorem stepD_N (x:Unit) (F:Nat → Prop) (v mv:Value) (r:Int) (e:BitVec 64) (w:World) (hP:PT kN (.done x) F v w) :
  Calls Tryz.prog 134 #[v,mv,.agg #[.int .i64 r,.int .u64 (U e)]] w (Ret (.tuple #[v,.bool false]) w):=by
 cases hP
 have n0:∀ w,(binOp .eql 135 .nilFunc .nilFunc).run Tryz.prog w = .ok (.bool true) w:=fun w => eql_nil w fnN
 show Calls Tryz.prog 134 #[.agg #[.int .i64 accZ.op,.int .i64 accZ.at_,.int .u64 (U accZ.a),.int .u64 (U accZ.b),.nilFunc,.pointer none],mv,.agg #[.int .i64 r,.int .u64 (U e)]] w _
 go_enter Tryz.func134,Tryz.ntmps134
 go_wp2
 exact bodyPost_ret (by simp only [results,Tryz.results134,go_sem];simp [go_sem,kN,vS0]) rfl (Ret.mk (ext_alloc _ (ext_alloc _ (ext_alloc _ (ext_refl w)))))
theorem ans_N (t:Tr Unit):ansT kN t = .agg #[]:=by
 cases t <;> rfl
theorem over_N (t:Tr (Unit)) (F:Nat → Prop) (v:Value) (w:World) (hP:PT kN t F v w) (b:Bool) (hb:Hid (ovT t = b)):Calls Tryz.prog 135 #[v] w (Ret (.tuple #[.agg #[],.bool b]) w):=by
 rw [← hb.out]
 cases t with
 | done x => cases hP;exact overYN _ _ _ _ w
 | ask a f => obtain ⟨g,caps,rfl,_⟩:=hP;exact ovnN a _ _ _ w
 | more => obtain ⟨a,g,caps,rfl,_⟩:=hP;exact ovnN a _ _ _ w
theorem stay_N {lo hi:Nat} {L:Lay} {M:MS} (t:Tr (Unit)) (F:Nat → Prop) (v:Value) (r:Int) (e:BitVec 64) (w:World) (hP:PT kN t F v w) (hM:MemIn lo hi L M w) (hs:Stays r e M t) :
  Calls Tryz.prog 134 #[v,.pointer (some ⟨L.bm,0,none⟩),.agg #[.int .i64 r,.int .u64 (U e)]] w (Ret (.tuple #[v,.bool false]) w):=by
 cases t with
 | done x => exact stepD_N x F v _ r e w hP
 | ask a f => exact stepR_N a f F v r e w hP hM hs
 | more => exact hs.elim
def RetR {α:Type} (k:Kd α) (lo hi:Nat) (L:Lay) (x:MS × Nat × Tr α) (w:World) (en:Ending) (w':World):Prop:=
 en = .returned (.tuple #[ansT k x.2.2,.int .i64 (x.2.1:Int),.bool (ovT x.2.2)]) ∧ MemIn lo hi L x.1 w' ∧ Fr lo hi w w'
structure RunN_N (lo hi:Nat) (L:Lay) (r:Int) (e:BitVec 64) (x:MS × Nat × Tr (Unit)) (m:Nat) (B:Nat) (w:World) (n:Nat) (t:Tr (Unit)) (M:MS) (v:Value) (F:Nat → Prop) (wr:World):Prop where
 km:n ≤ m
 res:∃ y,runT r e (m - n) t M = some y ∧ x = (y.1,y.2.1+n,y.2.2)
 p:PT kN t F v wr
 bnd:Bnd F wr
 off:∀ j,F j → (j < lo ∨ hi ≤ j) ∧ j ≠ B
 mem:MemIn lo hi L M wr
 fr:Fr lo hi w wr
 box:∃ (a:Acc) (fn:Value),v = .agg #[.int .i64 a.op,.int .i64 a.at_,.int .u64 (U a.a),.int .u64 (U a.b),fn,.pointer none] ∧ (fn = .nilFunc ∨ ∃ g caps,fn = .func (.func g) #[] caps) ∧ wr.heap[B]? = some (.cells #[.int .i64 a.op,.int .i64 a.at_,.int .u64 (U a.a),.int .u64 (U a.b),fn,.pointer none] 137)
 cap:wr.heap[B+1]? = some (.cells #[.int .i64 r,.int .u64 (U e)] 49)
def RunL_N (lo hi:Nat) (L:Lay) (r:Int) (e:BitVec 64) (x:MS × Nat × Tr (Unit)) (m:Nat) (B:Nat) (w:World) (i:Value) (wr:World):Prop:=
 ∃ (n:Nat) (t:Tr (Unit)) (M:MS) (v:Value) (F:Nat → Prop),i = .int .i64 (n:Int) ∧ RunN_N lo hi L r e x m B w n t M v F wr
theorem run_N {lo hi:Nat} {L:Lay} {M:MS} (t:Tr (Unit)) (F:Nat → Prop) (v:Value) (r:Int) (e:BitVec 64) (most:Int) (w:World) (x:MS × Nat × Tr (Unit)) (hmo:most ≤ 1099511627776) (hx:runT r e most.toNat t M = some x) (hP:PT kN t F v w) (hF:Bnd F w) (hO:∀ j,F j → j < lo ∨ hi ≤ j) (hM:MemIn lo hi L M w) :
  Calls Tryz.prog 58 #[v,.pointer (some ⟨L.bm,0,none⟩),.agg #[.int .i64 r,.int .u64 (U e)],.int .i64 most] w (RetR kN lo hi L x w):=by
 have HP:=Lib.hid hP
 have HM:=Lib.hid hM
 have hhi:=hM.top
 obtain ⟨a,fn,rfl,hfn⟩:=shN hP
 have HFN:=Lib.hid hfn
 clear hfn hP hM
 have HI:Hid (RunN_N lo hi L r e x most.toNat w.heap.size w 0 t M (.agg #[.int .i64 a.op,.int .i64 a.at_,.int .u64 (U a.a),.int .u64 (U a.b),fn,.pointer none]) F (((w.alloc (.cells #[.int .i64 a.op,.int .i64 a.at_,.int .u64 (U a.a),.int .u64 (U a.b),fn,.pointer none] 137)).alloc (.cells #[.int .i64 r,.int .u64 (U e)] 49)).alloc (.cells #[] 132))):=by
  refine Lib.hid ⟨Nat.zero_le _,⟨x,hx,rfl⟩,?_,?_,fun j hj => ⟨hO j hj,fun h => by have:=hF j hj;omega⟩,?_,?_,⟨a,fn,rfl,HFN.out,?_⟩,?_⟩
  ·exact HP.out.agr (Agr.of_ext (by repeat (first | exact ext_refl _ | apply ext_alloc)) hF)
  ·exact hF.ext (by simp;omega)
  ·exact HM.out.ext (by repeat (first | exact ext_refl _ | apply ext_alloc))
  ·exact .of_ext (by repeat (first | exact ext_refl _ | apply ext_alloc))
  ·rw [Below.heap_alloc _ _ _ (by simp;omega),Below.heap_alloc _ _ _ (by simp)]
   exact heap_at w _ _ rfl
  ·exact (Below.heap_alloc _ _ _ (by simp)).trans (heap_at _ _ _ (by simp))
 clear HP HM hF hO hx
 go_enter Tryz.func58,Tryz.ntmps58
 go_wp2
 go_loopw [11] (fun i wr => RunL_N lo hi L r e x most.toNat w.heap.size w i wr) (fun i _ => (most - intOf i).toNat)
 case atStart => exact ⟨0,_,_,_,_,rfl,HI.out⟩
 case round =>
  obtain ⟨n,t',M',v,F',rfl,hR⟩:=hrel
  have HR:=Lib.hid hR
  obtain ⟨a1,fn1,rfl,hfn1,hblk⟩:=hR.box
  have HFN1:=Lib.hid hfn1
  have HBK:=Lib.hid hblk
  obtain ⟨c0,c1,c2,c3,c4,c5,cz,ll⟩:=six_of hblk
  have cp0:=cell_at (o:=0) hR.cap rfl
  have cp1:=cell_at (o:=1) hR.cap rfl
  have lp:=heap_lt hR.cap
  have hsz:=hR.fr.size
  have hkm:=hR.km
  clear hR hfn1 hblk HI HFN
  by_cases hlt:(n:Int) < most
  ·by_cases hst:Stays r e M' t'
   ·have hE:x = (M',n,t'):=by
     obtain ⟨y',h1,h2⟩:=HR.out.res
     rw [runT_stays hst] at h1
     cases h1
     simpa using h2
    have HE:=Lib.hid hE
    have HST:=Lib.hid hst
    clear hE hst
    rcases HFN1.out with rfl | ⟨g',caps',rfl⟩
    all_goals
     go_wp2_with (first
      | (go_at_call 134;refine (stay_N t' F' _ r e _ HR.out.p HR.out.mem HST.out).mono ?_;rintro e1 w1 ⟨rfl,hx⟩;have HX:=Lib.hid hx;clear hx;have c0:=ext_cell HX.out c0;have c1:=ext_cell HX.out c1;have c2:=ext_cell HX.out c2;have c3:=ext_cell HX.out c3;have c4:=ext_cell HX.out c4;have c5:=ext_cell HX.out c5;have ll1:=Nat.lt_of_lt_of_le ll HX.out.size)
      | (go_at_call 135;refine (over_N t' F' _ _ (HR.out.p.agr (Agr.of_ext (ext_trans HX.out (by repeat (first | exact ext_refl _ | apply ext_alloc))) HR.out.bnd)) _ (Lib.hid rfl)).mono ?_;rintro e1 w1' ⟨rfl,hx⟩;replace hx:=ext_trans (ext_trans HX.out (by repeat (first | exact ext_refl _ | apply ext_alloc))) hx))
     exact bodyPost_ret (v:=.tuple #[.agg #[],.int .i64 (n:Int),.bool (ovT t')]) (by simp [results,Tryz.results58,go_sem]) rfl (by rw [HE.out];exact ⟨by rw [ans_N],HR.out.mem.ext (by first | exact hx | exact ext_trans hx (by repeat (first | exact ext_refl _ | apply ext_alloc))),HR.out.fr.ext (by first | exact hx | exact ext_trans hx (by repeat (first | exact ext_refl _ | apply ext_alloc)))⟩)
   ·have hE:∃ a f,t' = .ask a f ∧ DoOk M' r e a.op a.at_:=by
     obtain ⟨y',h1,h2⟩:=HR.out.res
     rw [show most.toNat - n = (most.toNat - (n+1))+1 by omega] at h1
     cases t' with
     | done x => exact (hst trivial).elim
     | ask a f => exact ⟨a,f,rfl,by by_cases hd:DoOk M' r e a.op a.at_;exact hd;exact (hst hd).elim⟩
     | more => simp [runT] at h1
    obtain ⟨a3,f3,rfl,hd⟩:=hE
    have HD:=Lib.hid hd
    obtain ⟨x3,hx3⟩ : ∃ x3,Hid (M'.wd r.toNat a3.at_.toNat = x3):=⟨_,Lib.hid rfl⟩
    clear hd hst
    go_wp2_with (go_at_call 134;refine (stepA_N a3 f3 F' _ r e _ HR.out.p HR.out.bnd (fun j hj => (HR.out.off j hj).1) HR.out.mem HD.out x3 hx3).mono ?_;rintro e1 w1 ⟨v2,F2,rfl,hp,hbn,hsub,hm,hf⟩;refine Hid.out ?_)
    refine Lib.hid ?_
    have hs1:=hf.size
    have hB1:=(hf.block _ ll (.inr hhi)).trans HBK.out
    have hC1:=(hf.block _ lp (.inr (by omega))).trans HR.out.cap
    obtain ⟨a2,fn2,rfl,hfn2⟩:=shN hp
    have HFN2:=Lib.hid hfn2
    clear c0 c1 c2 c3 c4 c5 cz cp0 cp1 hfn2
    obtain ⟨c0,c1,c2,c3,c4,c5,cz,ll1⟩:=six_of hB1
    have HS:Hid (∀ o,RunN_N lo hi L r e x most.toNat w.heap.size w (n+1) (f3 x3) (M'.done r a3.op a3.at_ a3.a a3.b) (.agg #[.int .i64 a2.op,.int .i64 a2.at_,.int .u64 (U a2.a),.int .u64 (U a2.b),fn2,.pointer none]) F2 ((put6 w.heap.size (.int .i64 a2.op) (.int .i64 a2.at_) (.int .u64 (U a2.a)) (.int .u64 (U a2.b)) (fn2) (.pointer none) w1).alloc o)):=by
     refine Lib.hid fun o => ⟨by omega,?_,?_,?_,?_,?_,?_,⟨a2,fn2,rfl,HFN2.out,?_⟩,?_⟩
     ·obtain ⟨y',h1,h2⟩:=HR.out.res
      rw [show most.toNat - n = (most.toNat - (n+1))+1 by omega,runT,if_pos HD.out,hx3.out] at h1
      obtain ⟨y3,h3,h4⟩:=Option.map_eq_some_iff.1 h1
      subst h4
      exact ⟨y3,h3,by rw [h2];simp;omega⟩
     ·have hnB:¬ F2 w.heap.size:=fun h => by
       rcases hsub _ h with h | h
       ·exact (HR.out.off _ h).2 rfl
       ·omega
      exact (hp.agr (Agr.of_put6 _ _ _ _ _ _  hnB)).agr (Agr.of_ext (ext_alloc o (ext_refl _)) (hbn.ext (by rw [put6_size];exact Nat.le_refl _)))
     ·exact hbn.ext (by simp [put6_size])
     ·intro j hj
      rcases hsub j hj with h | h
      ·exact HR.out.off j h
      ·exact ⟨.inr (by omega),by omega⟩
     ·exact (put6_mem _ _ _ _ _ _  hm hhi).alloc o
     ·exact (put6_frNew _ _ _ _ _ _  (HR.out.fr.trans hf) (Nat.le_refl _)).alloc o
     ·exact (Below.heap_alloc _ _ _ (by rw [put6_size];exact ll1)).trans (put6_block _ _ _ _ _ _  hB1)
     ·rw [Below.heap_alloc _ _ _ (by rw [put6_size];exact heap_lt hC1),put6_other _ _ _ _ _ _  (by omega)]
      exact hC1
    rw [put6] at HS
    clear hp hm hf hB1 hC1 HD hbn hsub
    rcases HFN2.out with rfl | ⟨g',caps',rfl⟩
    all_goals
     go_wp2
     exact ⟨⟨n+1,_,_,_,_,by go_num,HS.out _⟩,by simp [intOf];omega⟩
  ·have hE:x = (M',n,t'):=by
    obtain ⟨y',h1,h2⟩:=HR.out.res
    rw [show most.toNat - n = 0 by omega,runT] at h1
    cases h1
    simpa using h2
   have HE:=Lib.hid hE
   clear hE
   rcases HFN1.out with rfl | ⟨g',caps',rfl⟩
   all_goals
    go_wp2_with (go_at_call 135;refine (over_N t' F' _ _ HR.out.p _ (Lib.hid rfl)).mono ?_;rintro e1 w1 ⟨rfl,hx⟩)
    exact bodyPost_ret (v:=.tuple #[.agg #[],.int .i64 (n:Int),.bool (ovT t')]) (by simp [results,Tryz.results58,go_sem]) rfl (by rw [HE.out];exact ⟨by rw [ans_N],HR.out.mem.ext (by first | exact hx | exact ext_trans hx (by repeat (first | exact ext_refl _ | apply ext_alloc))),HR.out.fr.ext (by first | exact hx | exact ext_trans hx (by repeat (first | exact ext_refl _ | apply ext_alloc)))⟩)
end Go.Proofs.YthjklbonebnekaaGreat

