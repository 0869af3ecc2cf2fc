/-
  What New, Drop, Read, Write and Swap do, alone, in plain numbers. Conditions: a formed plan; fewer swaps than a tag can tell.
-/
import Derived.Test.YthjklbonebnekaaGreatGag
import Derived.Test.YthjklbonebnekaaGreatGao
import Derived.Test.YthjklbonebnekaaGreatGba
set_option maxRecDepth 8000
set_option maxHeartbeats 4000000
namespace Go.Proofs.YthjklbonebnekaaGreat
open Go Go.RowKit
theorem Runs.tryR {p:Pl} {M:MS} (hM:Mg p M) {at_:Int} (x y:BitVec 64) (h0:0 ≤ at_) (h1:at_ < p.sizeF):Runs (tryT at_ x y) M 1 (M.done 0 2 at_ x y) (M.wd 0 at_.toNat == x):=
 Runs.ask (a:=swA at_ x y) (hM.ok h0 h1 (by show (0:Int) ≤ 2;omega) (by show (2:Int) ≤ 3;omega)) (Runs.done _ _)
section
variable {p:Pl} (hp:p.ok) {M:MS} {fs:List Int} {T:Nat} {rs:Int → List Int} {sf:Int → St} {hd:Nat → BitVec 64} {fv:Int → Int → BitVec 64} {dw:Nat → BitVec 64}
include hp
theorem newN_take {n:Int} (h:NIn p M (n :: fs) T rs sf hd fv dw) (hT:T < 8796093022207) {kd:Int} (hk:0 ≤ kd ∧ kd ≤ 2) (t:Int) (N:Nat) :
  ∃ M',Runs (newT p t kd (N+2)) M 5 M' ⟨n,(sf n).g,0⟩ ∧ NIn p M' fs (T+1) rs (upS sf n (liveF kd (sf n))) hd fv dw:=by
 have hn:=h.fl.rg n (by simp)
 obtain ⟨M1,r1,a1⟩:=h.pop hp hT N
 obtain ⟨M2,r2,g2,w2⟩:=bec_run hp a1.fl.mg hn (liveF kd) ((a1.ain (t:=0) (by omega) (by unfold Pl.ok at hp;omega)).of_st hn)
 refine ⟨M2,?_,a1.bec hp hn (liveF_ok (h.ok n hn) hk) g2 w2⟩
 unfold newT twcT
 refine Runs.bind (k1:=3) (k2:=2) (M1:=M1) (x:=n) ?_ ?_
 ·refine Runs.bind (k1:=3) (k2:=0) r1 ?_
  unfold tw1T
  rw [if_neg (by have:=hn.1;omega)]
  exact Runs.done _ _
 ·unfold new1T
  rw [if_neg (by have:=hn.1;omega)]
  exact Runs.bind (k1:=2) (k2:=0) r2 (Runs.done _ _)
theorem wg_run (h:NIn p M fs T rs sf hd fv dw) {i:Int} (hi:InR p i):∃ M',Runs (getT (p.stF i)) M 1 M' (sf i).word ∧ NIn p M' fs T rs sf hd fv dw ∧ ∀ j,M'.wd 0 j = M.wd 0 j:=by
 obtain ⟨a1,a2,_,a4,a5⟩:=node_pl hp hi
 have hi0:=hi.1
 have r1:=Runs.get h.fl.mg (at_:=p.stF i) (by omega) (by omega)
 have e:M.wd 0 (p.stF i).toNat = (sf i).word:=h.st i hi
 rw [e] at r1
 exact ⟨_,r1,h.same hp (h.fl.mg.done 0 0 (p.stF i) 0#64 0#64) (wd_load M _ _ _),wd_load M _ _ _⟩
omit hp in
theorem good_iff (h:NIn p M fs T rs sf hd fv dw) {i g:Int} (hi:InR p i) (hg:0 ≤ g ∧ g ≤ 1073741823):(sf i).word = gW g ↔ sf i = ⟨g,1,0⟩:=by
 constructor
 ·intro e
  exact word_inj (h.ok i hi) (by unfold St.ok;simp only;omega) e
 ·intro e
  rw [e]
  rfl
theorem hz_idx {t:Int} (h0:0 ≤ t) (h1:t < p.t):(p.hazF t 0).toNat = hzN p (3 * t).toNat ∧ (((3 * t).toNat:Nat):Int) < 3 * p.t ∧ 0 ≤ p.hazF t 0 ∧ p.hazF t 0 < p.sizeF:=by
 have e:=hazF_eq hp h0 h1 (s:=0) (by omega) (by omega)
 have hs:=haz_size hp (i:=3 * t+0) (by omega) (by omega)
 refine ⟨?_,by omega,by omega,by omega⟩
 rw [e.2]
 congr 1
 omega
theorem hs_run (h:NIn p M fs T rs sf hd fv dw) {t:Int} (h0:0 ≤ t) (h1:t < p.t) (x:BitVec 64):∃ M',Runs (setT (p.hazF t 0) x) M 1 M' () ∧ NIn p M' fs T rs sf (upH hd (3 * t).toNat x) fv dw:=by
 obtain ⟨e1,e2,e3,e4⟩:=hz_idx hp h0 h1
 have r1:=Runs.set h.fl.mg (at_:=p.hazF t 0) x e3 e4
 refine ⟨_,r1,h.hset hp e2 x (h.fl.mg.done 0 1 (p.hazF t 0) x 0#64) fun j => ?_⟩
 rw [wd_store,e1]
theorem wg_yesR (h:NIn p M fs T rs sf hd fv dw) {hn:Hn} (hi:InR p hn.i) (hg:0 ≤ hn.g ∧ hn.g ≤ 1073741823) (hb:sf hn.i = ⟨hn.g,1,0⟩) (yes no:Tr Rz) {Q:MS → Prop} {k:Nat} {x:Rz}
  (hY:∀ M1,NIn p M1 fs T rs sf hd fv dw → (∀ j,M1.wd 0 j = M.wd 0 j) → ∃ M2,Runs yes M1 k M2 x ∧ Q M2):∃ M2,Runs (wgT p hn yes no) M (1+k) M2 x ∧ Q M2:=by
 obtain ⟨M1,r1,a1,w1⟩:=wg_run hp h hi
 obtain ⟨M2,r2,q⟩:=hY M1 a1 w1
 refine ⟨M2,?_,q⟩
 unfold wgT
 refine Runs.bind r1 ?_
 unfold wg1T
 rw [if_pos ((good_iff h hi hg).2 hb)]
 exact r2
theorem look_goodR (h:NIn p M fs T rs sf hd fv dw) {t:Int} (h0:0 ≤ t) (h1:t < p.t) {hn:Hn} (hi:InR p hn.i) (hg:0 ≤ hn.g ∧ hn.g ≤ 1073741823) (hb:sf hn.i = ⟨hn.g,1,0⟩) (hz:hd (3 * t).toNat = 0#64) {d:Tr (BitVec 64)} {y:BitVec 64} {fv':Int → Int → BitVec 64}
  (hD:∀ M hd',NIn p M fs T rs sf hd' fv dw → ∃ M',Runs d M 1 M' y ∧ NIn p M' fs T rs sf hd' fv' dw) :
  ∃ M',Runs (lkT p t hn d) M 5 M' ⟨0,y⟩ ∧ NIn p M' fs T rs sf hd fv' dw:=by
 unfold lkT
 refine wg_yesR hp (k:=4) h hi hg hb _ _ (Q:=fun M' => NIn p M' fs T rs sf hd fv' dw) fun M1 a1 _ => ?_
 obtain ⟨M2,r2,a2⟩:=hs_run hp a1 h0 h1 (nameW hn.i)
 obtain ⟨M3,r3,q⟩:=wg_yesR hp (k:=2) a2 hi hg hb (tchT p t d) (lvT p t badT) (x:=⟨0,y⟩) (Q:=fun M' => NIn p M' fs T rs sf hd fv' dw) fun M3 a3 _ => by
  obtain ⟨M4,r4,a4⟩:=hD M3 _ a3
  obtain ⟨M5,r5,a5⟩:=hs_run hp a4 h0 h1 (nameW (-1))
  rw [nameH_none,upH_back _ _ _ _ hz] at a5
  refine ⟨M5,?_,a5⟩
  unfold tchT
  refine Runs.bind (k1:=1) (k2:=1) r4 ?_
  unfold tch1T lvT
  exact Runs.bind (k1:=1) (k2:=0) r5 (Runs.done _ _)
 refine ⟨M3,?_,q⟩
 unfold hldgT agnT
 exact Runs.bind (k1:=1) (k2:=3) r2 r3
theorem fd_at (h:NIn p M fs T rs sf hd fv dw) {i o:Int} (hi:InR p i) (o0:0 ≤ o) (o1:o < 3):0 ≤ p.fdF i o ∧ p.fdF i o < p.sizeF ∧ (p.fdF i o).toNat = fdN p i o ∧ M.wd 0 (p.fdF i o).toNat = fv i o:=by
 obtain ⟨a1,a2,a3,a4,a5⟩:=node_pl hp hi
 have e:=a3 o o0 o1
 have hi0:=hi.1
 exact ⟨by omega,by omega,rfl,h.fd i hi o o0 o1⟩
theorem get_D (h:NIn p M fs T rs sf hd fv dw) {i o:Int} (hi:InR p i) (o0:0 ≤ o) (o1:o < 3):∃ M',Runs (getT (p.fdF i o)) M 1 M' (fv i o) ∧ NIn p M' fs T rs sf hd fv dw:=by
 obtain ⟨e1,e2,e3,e4⟩:=fd_at hp h hi o0 o1
 have r1:=Runs.get h.fl.mg (at_:=p.fdF i o) e1 e2
 rw [e4] at r1
 exact ⟨_,r1,h.same hp (h.fl.mg.done 0 0 (p.fdF i o) 0#64 0#64) (wd_load M _ _ _)⟩
theorem wrt_D (h:NIn p M fs T rs sf hd fv dw) {i o:Int} (hi:InR p i) (o0:0 ≤ o) (o1:o < 3) (v:BitVec 64):∃ M',Runs (wrtT (p.fdF i o) v) M 1 M' 0#64 ∧ NIn p M' fs T rs sf hd (upF2 fv i o v) dw:=by
 obtain ⟨e1,e2,e3,e4⟩:=fd_at hp h hi o0 o1
 have r1:=Runs.set h.fl.mg (at_:=p.fdF i o) v e1 e2
 refine ⟨_,Runs.bind (k1:=1) (k2:=0) r1 (Runs.done _ _),h.fset hp hi o0 o1 v (h.fl.mg.done 0 1 (p.fdF i o) v 0#64) fun j => ?_⟩
 rw [wd_store,e3]
theorem swp_D (h:NIn p M fs T rs sf hd fv dw) {i o:Int} (hi:InR p i) (o0:0 ≤ o) (o1:o < 3) (was v:BitVec 64):∃ M',Runs (swpT (p.fdF i o) was v) M 1 M' (if fv i o = was then 1#64 else 0#64) ∧ NIn p M' fs T rs sf hd (if fv i o = was then upF2 fv i o v else fv) dw:=by
 obtain ⟨e1,e2,e3,e4⟩:=fd_at hp h hi o0 o1
 have r1:=Runs.tryR h.fl.mg (at_:=p.fdF i o) was v e1 e2
 rw [e4] at r1
 have g1:=h.fl.mg.done 0 2 (p.fdF i o) was v
 have w1:=wd_swap M (p.fdF i o) was v
 by_cases e:fv i o = was
 ·rw [if_pos e,if_pos e]
  refine ⟨_,Runs.bind (k1:=1) (k2:=0) r1 ?_,h.fset hp hi o0 o1 v g1 fun j => ?_⟩
  ·have:(fv i o == was) = true:=by simp [e]
   rw [this]
   exact Runs.done _ _
  ·rw [w1,e4,if_pos e,e3]
 ·rw [if_neg e,if_neg e]
  refine ⟨_,Runs.bind (k1:=1) (k2:=0) r1 ?_,h.same hp g1 fun j => ?_⟩
  ·have:(fv i o == was) = false:=by simp [e]
   rw [this]
   exact Runs.done _ _
  ·rw [w1,e4,if_neg e]
   split
   ·rename_i ej;rw [ej,e4]
   ·rfl
end
theorem cnw_run {p:Pl} {M M':MS} {t tn:Int} {k:Nat} {g:Gr} {N:Nat} (h:Runs (newT p t 0 N) M k M' g):Runs (cnwT p t tn N) M k M' (if g.e = 0 then ⟨0,Hn.word ⟨g.n,g.g,tn⟩⟩ else ⟨g.e,0#64⟩):=by
 unfold cnwT
 refine Runs.bind (k1:=k) (k2:=0) h ?_
 unfold cn1T
 split
 ·exact Runs.done _ _
 ·exact Runs.done _ _
theorem fnS:Tryz.prog.underlying 151 = some (.func #[40] #[153] false):=by kernel_rfl
theorem ownS (x0 x1 x2:Int) (w:World):Calls Tryz.prog 222 #[.agg #[.int .i64 x0,.int .i64 x1,.int .i64 x2]] w (Ret (.agg #[.int .i64 x0,.int .i64 x1,.int .i64 x2]) w):=by
 have ta:∀ v w,(Instr.typeAssert (.iface 297 v) 20 250 true).run Tryz.prog w = .ok (.tuple #[.pointer none,.bool false]) w:=fun v w => assert_no _ v w (by decide)
 go_enter Tryz.func222,Tryz.ntmps222
 go_wp2
 refine bodyPost_ret (v:=.agg #[.int .i64 x0,.int .i64 x1,.int .i64 x2]) (by simp [results,Tryz.results222,go_sem]) rfl (Ret.mk (by repeat (first | exact ext_refl _ | apply ext_alloc | (refine ext_set _ ?_ ?_;exact Nat.le_refl _))))
theorem doneS (x0 x1 x2:Int) (w:World):Calls Tryz.prog 156 #[.agg #[.int .i64 x0,.int .i64 x1,.int .i64 x2]] w (Ret (.agg #[.int .i64 x0,.int .i64 x1,.int .i64 x2,.int .i64 0,.int .i64 0,.int .u64 0,.int .u64 0,.nilFunc,.pointer none]) w):=by
 go_enter Tryz.func156,Tryz.ntmps156
 go_wp2_with (go_at_call 222;refine (ownS x0 x1 x2 _).mono ?_;rintro e w' ⟨rfl,hx⟩;refine Hid.out ?_)
 refine Lib.hid ?_
 have hblk:=(hx.block (w.heap.size+1) (by simp)).trans (heap_at (w.alloc (.cells #[.int .i64 x0,.int .i64 x1,.int .i64 x2] 56)) _ _ (by simp))
 have hE:Ext w w':=by
  refine ext_trans ?_ hx
  repeat (first | exact ext_refl _ | apply ext_alloc)
 have hX:=put9_ext (b:=w.heap.size+1) (.int .i64 x0) (.int .i64 x1) (.int .i64 x2) (.int .i64 0) (.int .i64 0) (.int .u64 0) (.int .u64 0) (.nilFunc) (.pointer none) hE (by omega)
 have hB:=put9_block (.int .i64 x0) (.int .i64 x1) (.int .i64 x2) (.int .i64 0) (.int .i64 0) (.int .u64 0) (.int .u64 0) (.nilFunc) (.pointer none) hblk
 obtain ⟨c0,c1,c2,c3,c4,c5,c6,c7,c8,cz,ll⟩:=nin_of hblk
 rw [put9] at hX hB
 have HX:=Lib.hid hX
 have HB:=Lib.hid hB
 clear hX hB hx hE hblk
 go_wp2
 replace HX:=HX.out
 replace HB:=HB.out
 clear c0 c1 c2 c3 c4 c5 c6 c7 c8 cz ll
 generalize (World.setCell _ (⟨w.heap.size+1,8,none⟩ : Addr) _) = Z at HB HX ⊢
 obtain ⟨c0,c1,c2,c3,c4,c5,c6,c7,c8,cz,ll⟩:=nin_of HB
 exact bodyPost_ret (by simp only [results,Tryz.results156,go_sem];simp [go_sem,c0,c1,c2,c3,c4,c5,c6,c7,c8]) rfl (Ret.mk HX)
theorem overYS (x0 x1 x2:Int) (a1 a2 a3 a4:Int) (w:World):Calls Tryz.prog 150 #[.agg #[.int .i64 x0,.int .i64 x1,.int .i64 x2,.int .i64 a1,.int .i64 a2,.int .u64 a3,.int .u64 a4,.nilFunc,.pointer none]] w (Ret (.tuple #[.agg #[.int .i64 x0,.int .i64 x1,.int .i64 x2],.bool true]) w):=by
 have n0:∀ w,(binOp .neq 151 .nilFunc .nilFunc).run Tryz.prog w = .ok (.bool false) w:=fun w => neq_nil w fnS
 go_enter Tryz.func150,Tryz.ntmps150
 go_wp2_with (go_at_call 222;refine (ownS x0 x1 x2 _).mono ?_;rintro e w' ⟨rfl,hx⟩;refine Hid.out ?_)
 refine Lib.hid ?_
 have hblk:=(hx.block (w.heap.size+1) (by simp)).trans (heap_at (w.alloc (.cells #[.int .i64 x0,.int .i64 x1,.int .i64 x2,.int .i64 a1,.int .i64 a2,.int .u64 a3,.int .u64 a4,.nilFunc,.pointer none] 153)) _ _ (by simp))
 have hE:Ext w w':=by
  refine ext_trans ?_ hx
  repeat (first | exact ext_refl _ | apply ext_alloc)
 have hX:=put3_ext (b:=w.heap.size+1) (.int .i64 x0) (.int .i64 x1) (.int .i64 x2) hE (by omega)
 have hB:=put3_block (.int .i64 x0) (.int .i64 x1) (.int .i64 x2) hblk
 have c0:=cell_at (o:=0) hblk rfl
 have c1:=cell_at (o:=1) hblk rfl
 have c2:=cell_at (o:=2) hblk rfl
 have cz:∀ o,w'.frozen? ⟨w.heap.size+1,o,none⟩ = false:=fun _ => free_at hblk
 have ll:=heap_lt hblk
 rw [put3] at hX hB
 have HX:=Lib.hid hX
 have HB:=Lib.hid hB
 clear hX hB hx hE hblk
 go_wp2
 clear c0 c1 c2 cz ll
 replace HX:=HX.out
 replace HB:=HB.out
 generalize (World.setCell _ (⟨w.heap.size+1,2,none⟩ : Addr) _) = Z at HB HX ⊢
 have c0:=cell_at (o:=0) HB rfl
 have c1:=cell_at (o:=1) HB rfl
 have c2:=cell_at (o:=2) HB rfl
 exact bodyPost_ret (by simp only [results,Tryz.results150,go_sem];simp [go_sem,c0,c1,c2]) rfl (Ret.mk HX)
theorem ovnS (a:Acc) (f:Fn) (y z:Array Value) (w:World):Calls Tryz.prog 150 #[.agg #[.int .i64 0,.int .i64 0,.int .i64 0,.int .i64 a.op,.int .i64 a.at_,.int .u64 (U a.a),.int .u64 (U a.b),.func f y z,.pointer none]] w (Ret (.tuple #[.agg #[.int .i64 0,.int .i64 0,.int .i64 0],.bool false]) w):=by
 have n0:∀ f x y w,(binOp .neq 151 (.func f x y) .nilFunc).run Tryz.prog w = .ok (.bool true) w:=fun f x y w => neq_fn w fnS f x y
 go_enter Tryz.func150,Tryz.ntmps150
 go_wp2
 exact bodyPost_ret (v:=.tuple #[.agg #[.int .i64 0,.int .i64 0,.int .i64 0],.bool false]) (by simp [results,Tryz.results150,go_sem]) rfl (Ret.mk (by repeat (first | exact ext_refl _ | apply ext_alloc | (refine ext_set _ ?_ ?_;show w.heap.size ≤ _;simp))))
theorem shS {t:Tr St} {F:Nat → Prop} {v:Value} {w:World} (h:PT kS t F v w):∃ (y0 y1 y2:Int) (a:Acc) (fn:Value),v = .agg #[.int .i64 y0,.int .i64 y1,.int .i64 y2,.int .i64 a.op,.int .i64 a.at_,.int .u64 (U a.a),.int .u64 (U a.b),fn,.pointer none] ∧ (fn = .nilFunc ∨ ∃ g caps,fn = .func (.func g) #[] caps):=by
 cases t with
 | done r => exact ⟨_,_,_,_,_,h,.inl rfl⟩
 | ask a f => obtain ⟨g,caps,e,_⟩:=h;exact ⟨_,_,_,_,_,e,.inr ⟨g,caps,rfl⟩⟩
 | more => obtain ⟨a,g,caps,e,_⟩:=h;exact ⟨_,_,_,_,_,e,.inr ⟨g,caps,rfl⟩⟩
theorem doneS_PT (x:St) (w:World):Calls Tryz.prog 156 #[stV x] w (RetP (PT kS (.done x)) noF w):=
 (doneS x.g x.m x.k w).mono fun e w' ⟨h1,h2⟩ => ⟨_,noF,h1,h2,by show _ = kS.S _ _ _;simp [kS,vS3,at3,accZ,U_0],bnd_no _,fun _ h => h.elim⟩
theorem fnG:Tryz.prog.underlying 43 = some (.func #[40] #[46] false):=by kernel_rfl
theorem ownG (x0 x1 x2:Int) (w:World):Calls Tryz.prog 137 #[.agg #[.int .i64 x0,.int .i64 x1,.int .i64 x2]] w (Ret (.agg #[.int .i64 x0,.int .i64 x1,.int .i64 x2]) w):=by
 have ta:∀ v w,(Instr.typeAssert (.iface 278 v) 20 250 true).run Tryz.prog w = .ok (.tuple #[.pointer none,.bool false]) w:=fun v w => assert_no _ v w (by decide)
 go_enter Tryz.func137,Tryz.ntmps137
 go_wp2
 refine bodyPost_ret (v:=.agg #[.int .i64 x0,.int .i64 x1,.int .i64 x2]) (by simp [results,Tryz.results137,go_sem]) rfl (Ret.mk (by repeat (first | exact ext_refl _ | apply ext_alloc | (refine ext_set _ ?_ ?_;exact Nat.le_refl _))))
theorem doneG (x0 x1 x2:Int) (w:World):Calls Tryz.prog 69 #[.agg #[.int .i64 x0,.int .i64 x1,.int .i64 x2]] w (Ret (.agg #[.int .i64 x0,.int .i64 x1,.int .i64 x2,.int .i64 0,.int .i64 0,.int .u64 0,.int .u64 0,.nilFunc,.pointer none]) w):=by
 go_enter Tryz.func69,Tryz.ntmps69
 go_wp2_with (go_at_call 137;refine (ownG x0 x1 x2 _).mono ?_;rintro e w' ⟨rfl,hx⟩;refine Hid.out ?_)
 refine Lib.hid ?_
 have hblk:=(hx.block (w.heap.size+1) (by simp)).trans (heap_at (w.alloc (.cells #[.int .i64 x0,.int .i64 x1,.int .i64 x2] 37)) _ _ (by simp))
 have hE:Ext w w':=by
  refine ext_trans ?_ hx
  repeat (first | exact ext_refl _ | apply ext_alloc)
 have hX:=put9_ext (b:=w.heap.size+1) (.int .i64 x0) (.int .i64 x1) (.int .i64 x2) (.int .i64 0) (.int .i64 0) (.int .u64 0) (.int .u64 0) (.nilFunc) (.pointer none) hE (by omega)
 have hB:=put9_block (.int .i64 x0) (.int .i64 x1) (.int .i64 x2) (.int .i64 0) (.int .i64 0) (.int .u64 0) (.int .u64 0) (.nilFunc) (.pointer none) hblk
 obtain ⟨c0,c1,c2,c3,c4,c5,c6,c7,c8,cz,ll⟩:=nin_of hblk
 rw [put9] at hX hB
 have HX:=Lib.hid hX
 have HB:=Lib.hid hB
 clear hX hB hx hE hblk
 go_wp2
 replace HX:=HX.out
 replace HB:=HB.out
 clear c0 c1 c2 c3 c4 c5 c6 c7 c8 cz ll
 generalize (World.setCell _ (⟨w.heap.size+1,8,none⟩ : Addr) _) = Z at HB HX ⊢
 obtain ⟨c0,c1,c2,c3,c4,c5,c6,c7,c8,cz,ll⟩:=nin_of HB
 exact bodyPost_ret (by simp only [results,Tryz.results69,go_sem];simp [go_sem,c0,c1,c2,c3,c4,c5,c6,c7,c8]) rfl (Ret.mk HX)
theorem overYG (x0 x1 x2:Int) (a1 a2 a3 a4:Int) (w:World):Calls Tryz.prog 61 #[.agg #[.int .i64 x0,.int .i64 x1,.int .i64 x2,.int .i64 a1,.int .i64 a2,.int .u64 a3,.int .u64 a4,.nilFunc,.pointer none]] w (Ret (.tuple #[.agg #[.int .i64 x0,.int .i64 x1,.int .i64 x2],.bool true]) w):=by
 have n0:∀ w,(binOp .neq 43 .nilFunc .nilFunc).run Tryz.prog w = .ok (.bool false) w:=fun w => neq_nil w fnG
 go_enter Tryz.func61,Tryz.ntmps61
 go_wp2_with (go_at_call 137;refine (ownG x0 x1 x2 _).mono ?_;rintro e w' ⟨rfl,hx⟩;refine Hid.out ?_)
 refine Lib.hid ?_
 have hblk:=(hx.block (w.heap.size+1) (by simp)).trans (heap_at (w.alloc (.cells #[.int .i64 x0,.int .i64 x1,.int .i64 x2,.int .i64 a1,.int .i64 a2,.int .u64 a3,.int .u64 a4,.nilFunc,.pointer none] 46)) _ _ (by simp))
 have hE:Ext w w':=by
  refine ext_trans ?_ hx
  repeat (first | exact ext_refl _ | apply ext_alloc)
 have hX:=put3_ext (b:=w.heap.size+1) (.int .i64 x0) (.int .i64 x1) (.int .i64 x2) hE (by omega)
 have hB:=put3_block (.int .i64 x0) (.int .i64 x1) (.int .i64 x2) hblk
 have c0:=cell_at (o:=0) hblk rfl
 have c1:=cell_at (o:=1) hblk rfl
 have c2:=cell_at (o:=2) hblk rfl
 have cz:∀ o,w'.frozen? ⟨w.heap.size+1,o,none⟩ = false:=fun _ => free_at hblk
 have ll:=heap_lt hblk
 rw [put3] at hX hB
 have HX:=Lib.hid hX
 have HB:=Lib.hid hB
 clear hX hB hx hE hblk
 go_wp2
 clear c0 c1 c2 cz ll
 replace HX:=HX.out
 replace HB:=HB.out
 generalize (World.setCell _ (⟨w.heap.size+1,2,none⟩ : Addr) _) = Z at HB HX ⊢
 have c0:=cell_at (o:=0) HB rfl
 have c1:=cell_at (o:=1) HB rfl
 have c2:=cell_at (o:=2) HB rfl
 exact bodyPost_ret (by simp only [results,Tryz.results61,go_sem];simp [go_sem,c0,c1,c2]) rfl (Ret.mk HX)
theorem ovnG (a:Acc) (f:Fn) (y z:Array Value) (w:World):Calls Tryz.prog 61 #[.agg #[.int .i64 0,.int .i64 0,.int .i64 0,.int .i64 a.op,.int .i64 a.at_,.int .u64 (U a.a),.int .u64 (U a.b),.func f y z,.pointer none]] w (Ret (.tuple #[.agg #[.int .i64 0,.int .i64 0,.int .i64 0],.bool false]) w):=by
 have n0:∀ f x y w,(binOp .neq 43 (.func f x y) .nilFunc).run Tryz.prog w = .ok (.bool true) w:=fun f x y w => neq_fn w fnG f x y
 go_enter Tryz.func61,Tryz.ntmps61
 go_wp2
 exact bodyPost_ret (v:=.tuple #[.agg #[.int .i64 0,.int .i64 0,.int .i64 0],.bool false]) (by simp [results,Tryz.results61,go_sem]) rfl (Ret.mk (by repeat (first | exact ext_refl _ | apply ext_alloc | (refine ext_set _ ?_ ?_;show w.heap.size ≤ _;simp))))
theorem shG {t:Tr Gr} {F:Nat → Prop} {v:Value} {w:World} (h:PT kG t F v w):∃ (y0 y1 y2:Int) (a:Acc) (fn:Value),v = .agg #[.int .i64 y0,.int .i64 y1,.int .i64 y2,.int .i64 a.op,.int .i64 a.at_,.int .u64 (U a.a),.int .u64 (U a.b),fn,.pointer none] ∧ (fn = .nilFunc ∨ ∃ g caps,fn = .func (.func g) #[] caps):=by
 cases t with
 | done r => exact ⟨_,_,_,_,_,h,.inl rfl⟩
 | ask a f => obtain ⟨g,caps,e,_⟩:=h;exact ⟨_,_,_,_,_,e,.inr ⟨g,caps,rfl⟩⟩
 | more => obtain ⟨a,g,caps,e,_⟩:=h;exact ⟨_,_,_,_,_,e,.inr ⟨g,caps,rfl⟩⟩
theorem doneG_PT (x:Gr) (w:World):Calls Tryz.prog 69 #[grV x] w (RetP (PT kG (.done x)) noF w):=
 (doneG x.n x.g x.e w).mono fun e w' ⟨h1,h2⟩ => ⟨_,noF,h1,h2,by show _ = kG.S _ _ _;simp [kG,vS3,at3,accZ,U_0],bnd_no _,fun _ h => h.elim⟩
theorem tlS {t:Tr (St)} {F' G:Nat → Prop} {v':Value} {u w':World} {b:Nat} {c0 c1 c2 c3 c4 c5 c6 c7 c8:Value} {ty:TypeId} (hp:PT kS t F' v' w') (hX:Ext u w') (hbx:w'.heap[b]? = some (.cells #[c0,c1,c2,c3,c4,c5,c6,c7,c8] ty (0,0))) (hbn:Bnd F' w') (hsub:∀ j,F' j → G j ∨ u.heap.size ≤ j) (hnF:¬ F' b) (hb:u.heap.size ≤ b) :
  ∃ (y0 y1 y2:Int) (a2:Acc) (fn2:Value),v' = .agg #[.int .i64 y0,.int .i64 y1,.int .i64 y2,.int .i64 a2.op,.int .i64 a2.at_,.int .u64 (U a2.a),.int .u64 (U a2.b),fn2,.pointer none] ∧ Hid (fn2 = .nilFunc ∨ ∃ g caps,fn2 = .func (.func g) #[] caps) ∧ Hid (Ext u (((((((((w'.setCell ⟨b,0,none⟩ (.int .i64 y0)).setCell ⟨b,1,none⟩ (.int .i64 y1)).setCell ⟨b,2,none⟩ (.int .i64 y2)).setCell ⟨b,3,none⟩ (.int .i64 a2.op)).setCell ⟨b,4,none⟩ (.int .i64 a2.at_)).setCell ⟨b,5,none⟩ (.int .u64 (U a2.a))).setCell ⟨b,6,none⟩ (.int .u64 (U a2.b))).setCell ⟨b,7,none⟩ (fn2)).setCell ⟨b,8,none⟩ (.pointer none)) ∧ (((((((((w'.setCell ⟨b,0,none⟩ (.int .i64 y0)).setCell ⟨b,1,none⟩ (.int .i64 y1)).setCell ⟨b,2,none⟩ (.int .i64 y2)).setCell ⟨b,3,none⟩ (.int .i64 a2.op)).setCell ⟨b,4,none⟩ (.int .i64 a2.at_)).setCell ⟨b,5,none⟩ (.int .u64 (U a2.a))).setCell ⟨b,6,none⟩ (.int .u64 (U a2.b))).setCell ⟨b,7,none⟩ (fn2)).setCell ⟨b,8,none⟩ (.pointer none)).heap[b]? = some (.cells #[.int .i64 y0,.int .i64 y1,.int .i64 y2,.int .i64 a2.op,.int .i64 a2.at_,.int .u64 (U a2.a),.int .u64 (U a2.b),fn2,.pointer none] ty (0,0)) ∧ PT kS t F' (.agg #[.int .i64 y0,.int .i64 y1,.int .i64 y2,.int .i64 a2.op,.int .i64 a2.at_,.int .u64 (U a2.a),.int .u64 (U a2.b),fn2,.pointer none]) (((((((((w'.setCell ⟨b,0,none⟩ (.int .i64 y0)).setCell ⟨b,1,none⟩ (.int .i64 y1)).setCell ⟨b,2,none⟩ (.int .i64 y2)).setCell ⟨b,3,none⟩ (.int .i64 a2.op)).setCell ⟨b,4,none⟩ (.int .i64 a2.at_)).setCell ⟨b,5,none⟩ (.int .u64 (U a2.a))).setCell ⟨b,6,none⟩ (.int .u64 (U a2.b))).setCell ⟨b,7,none⟩ (fn2)).setCell ⟨b,8,none⟩ (.pointer none)) ∧ Bnd F' (((((((((w'.setCell ⟨b,0,none⟩ (.int .i64 y0)).setCell ⟨b,1,none⟩ (.int .i64 y1)).setCell ⟨b,2,none⟩ (.int .i64 y2)).setCell ⟨b,3,none⟩ (.int .i64 a2.op)).setCell ⟨b,4,none⟩ (.int .i64 a2.at_)).setCell ⟨b,5,none⟩ (.int .u64 (U a2.a))).setCell ⟨b,6,none⟩ (.int .u64 (U a2.b))).setCell ⟨b,7,none⟩ (fn2)).setCell ⟨b,8,none⟩ (.pointer none)) ∧ ∀ j,F' j → G j ∨ u.heap.size ≤ j):=by
 obtain ⟨y0,y1,y2,a2,fn2,rfl,hfn⟩:=shS hp
 have hS:(put9 b (.int .i64 y0) (.int .i64 y1) (.int .i64 y2) (.int .i64 a2.op) (.int .i64 a2.at_) (.int .u64 (U a2.a)) (.int .u64 (U a2.b)) (fn2) (.pointer none) w').heap.size = w'.heap.size:=put9_size (.int .i64 y0) (.int .i64 y1) (.int .i64 y2) (.int .i64 a2.op) (.int .i64 a2.at_) (.int .u64 (U a2.a)) (.int .u64 (U a2.b)) (fn2) (.pointer none)
 exact ⟨y0,y1,y2,a2,fn2,rfl,Lib.hid hfn,Lib.hid ⟨put9_ext (b:=b) (.int .i64 y0) (.int .i64 y1) (.int .i64 y2) (.int .i64 a2.op) (.int .i64 a2.at_) (.int .u64 (U a2.a)) (.int .u64 (U a2.b)) (fn2) (.pointer none) hX hb,put9_block (.int .i64 y0) (.int .i64 y1) (.int .i64 y2) (.int .i64 a2.op) (.int .i64 a2.at_) (.int .u64 (U a2.a)) (.int .u64 (U a2.b)) (fn2) (.pointer none) hbx,hp.agr (Agr.of_put9 (b:=b) (.int .i64 y0) (.int .i64 y1) (.int .i64 y2) (.int .i64 a2.op) (.int .i64 a2.at_) (.int .u64 (U a2.a)) (.int .u64 (U a2.b)) (fn2) (.pointer none) hnF),fun j hj => (by show j < (put9 b (.int .i64 y0) (.int .i64 y1) (.int .i64 y2) (.int .i64 a2.op) (.int .i64 a2.at_) (.int .u64 (U a2.a)) (.int .u64 (U a2.b)) (fn2) (.pointer none) w').heap.size;rw [hS];exact hbn j hj),hsub⟩⟩
theorem tlG {t:Tr (Gr)} {F' G:Nat → Prop} {v':Value} {u w':World} {b:Nat} {c0 c1 c2 c3 c4 c5 c6 c7 c8:Value} {ty:TypeId} (hp:PT kG t F' v' w') (hX:Ext u w') (hbx:w'.heap[b]? = some (.cells #[c0,c1,c2,c3,c4,c5,c6,c7,c8] ty (0,0))) (hbn:Bnd F' w') (hsub:∀ j,F' j → G j ∨ u.heap.size ≤ j) (hnF:¬ F' b) (hb:u.heap.size ≤ b) :
  ∃ (y0 y1 y2:Int) (a2:Acc) (fn2:Value),v' = .agg #[.int .i64 y0,.int .i64 y1,.int .i64 y2,.int .i64 a2.op,.int .i64 a2.at_,.int .u64 (U a2.a),.int .u64 (U a2.b),fn2,.pointer none] ∧ Hid (fn2 = .nilFunc ∨ ∃ g caps,fn2 = .func (.func g) #[] caps) ∧ Hid (Ext u (((((((((w'.setCell ⟨b,0,none⟩ (.int .i64 y0)).setCell ⟨b,1,none⟩ (.int .i64 y1)).setCell ⟨b,2,none⟩ (.int .i64 y2)).setCell ⟨b,3,none⟩ (.int .i64 a2.op)).setCell ⟨b,4,none⟩ (.int .i64 a2.at_)).setCell ⟨b,5,none⟩ (.int .u64 (U a2.a))).setCell ⟨b,6,none⟩ (.int .u64 (U a2.b))).setCell ⟨b,7,none⟩ (fn2)).setCell ⟨b,8,none⟩ (.pointer none)) ∧ (((((((((w'.setCell ⟨b,0,none⟩ (.int .i64 y0)).setCell ⟨b,1,none⟩ (.int .i64 y1)).setCell ⟨b,2,none⟩ (.int .i64 y2)).setCell ⟨b,3,none⟩ (.int .i64 a2.op)).setCell ⟨b,4,none⟩ (.int .i64 a2.at_)).setCell ⟨b,5,none⟩ (.int .u64 (U a2.a))).setCell ⟨b,6,none⟩ (.int .u64 (U a2.b))).setCell ⟨b,7,none⟩ (fn2)).setCell ⟨b,8,none⟩ (.pointer none)).heap[b]? = some (.cells #[.int .i64 y0,.int .i64 y1,.int .i64 y2,.int .i64 a2.op,.int .i64 a2.at_,.int .u64 (U a2.a),.int .u64 (U a2.b),fn2,.pointer none] ty (0,0)) ∧ PT kG t F' (.agg #[.int .i64 y0,.int .i64 y1,.int .i64 y2,.int .i64 a2.op,.int .i64 a2.at_,.int .u64 (U a2.a),.int .u64 (U a2.b),fn2,.pointer none]) (((((((((w'.setCell ⟨b,0,none⟩ (.int .i64 y0)).setCell ⟨b,1,none⟩ (.int .i64 y1)).setCell ⟨b,2,none⟩ (.int .i64 y2)).setCell ⟨b,3,none⟩ (.int .i64 a2.op)).setCell ⟨b,4,none⟩ (.int .i64 a2.at_)).setCell ⟨b,5,none⟩ (.int .u64 (U a2.a))).setCell ⟨b,6,none⟩ (.int .u64 (U a2.b))).setCell ⟨b,7,none⟩ (fn2)).setCell ⟨b,8,none⟩ (.pointer none)) ∧ Bnd F' (((((((((w'.setCell ⟨b,0,none⟩ (.int .i64 y0)).setCell ⟨b,1,none⟩ (.int .i64 y1)).setCell ⟨b,2,none⟩ (.int .i64 y2)).setCell ⟨b,3,none⟩ (.int .i64 a2.op)).setCell ⟨b,4,none⟩ (.int .i64 a2.at_)).setCell ⟨b,5,none⟩ (.int .u64 (U a2.a))).setCell ⟨b,6,none⟩ (.int .u64 (U a2.b))).setCell ⟨b,7,none⟩ (fn2)).setCell ⟨b,8,none⟩ (.pointer none)) ∧ ∀ j,F' j → G j ∨ u.heap.size ≤ j):=by
 obtain ⟨y0,y1,y2,a2,fn2,rfl,hfn⟩:=shG hp
 have hS:(put9 b (.int .i64 y0) (.int .i64 y1) (.int .i64 y2) (.int .i64 a2.op) (.int .i64 a2.at_) (.int .u64 (U a2.a)) (.int .u64 (U a2.b)) (fn2) (.pointer none) w').heap.size = w'.heap.size:=put9_size (.int .i64 y0) (.int .i64 y1) (.int .i64 y2) (.int .i64 a2.op) (.int .i64 a2.at_) (.int .u64 (U a2.a)) (.int .u64 (U a2.b)) (fn2) (.pointer none)
 exact ⟨y0,y1,y2,a2,fn2,rfl,Lib.hid hfn,Lib.hid ⟨put9_ext (b:=b) (.int .i64 y0) (.int .i64 y1) (.int .i64 y2) (.int .i64 a2.op) (.int .i64 a2.at_) (.int .u64 (U a2.a)) (.int .u64 (U a2.b)) (fn2) (.pointer none) hX hb,put9_block (.int .i64 y0) (.int .i64 y1) (.int .i64 y2) (.int .i64 a2.op) (.int .i64 a2.at_) (.int .u64 (U a2.a)) (.int .u64 (U a2.b)) (fn2) (.pointer none) hbx,hp.agr (Agr.of_put9 (b:=b) (.int .i64 y0) (.int .i64 y1) (.int .i64 y2) (.int .i64 a2.op) (.int .i64 a2.at_) (.int .u64 (U a2.a)) (.int .u64 (U a2.b)) (fn2) (.pointer none) hnF),fun j hj => (by show j < (put9 b (.int .i64 y0) (.int .i64 y1) (.int .i64 y2) (.int .i64 a2.op) (.int .i64 a2.at_) (.int .u64 (U a2.a)) (.int .u64 (U a2.b)) (fn2) (.pointer none) w').heap.size;rw [hS];exact hbn j hj),hsub⟩⟩
end Go.Proofs.YthjklbonebnekaaGreat

