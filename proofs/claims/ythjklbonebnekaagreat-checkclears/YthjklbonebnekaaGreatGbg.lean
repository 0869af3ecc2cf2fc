/-
  What the calls of own, Done and Over come to, of programs of a struct of three. Conditions: those of each theorem.
-/
import Derived.Test.YthjklbonebnekaaGreatGah
import Derived.Test.YthjklbonebnekaaGreatGap
import Derived.Test.YthjklbonebnekaaGreatGbe
set_option maxRecDepth 8000
set_option maxHeartbeats 4000000
namespace Go.Proofs.YthjklbonebnekaaGreat
open Go Go.RowKit
theorem fnS:Tryz.prog.underlying 151 = some (.func #[40] #[153] false):=by kernel_rfl
theorem ownS (x0 x1 x2:Int) (w:World):Calls Tryz.prog 222 #[.agg #[.int .i64 x0,.int .i64 x1,.int .i64 x2]] w (Ret (.agg #[.int .i64 x0,.int .i64 x1,.int .i64 x2]) w):=by
 have ta:∀ v w,(Instr.typeAssert (.iface 297 v) 20 250 true).run Tryz.prog w = .ok (.tuple #[.pointer none,.bool false]) w:=fun v w => assert_no _ v w (by decide)
 go_enter Tryz.func222,Tryz.ntmps222
 go_wp2
 refine bodyPost_ret (v:=.agg #[.int .i64 x0,.int .i64 x1,.int .i64 x2]) (by simp [results,Tryz.results222,go_sem]) rfl (Ret.mk (by repeat (first | exact ext_refl _ | apply ext_alloc | (refine ext_set _ ?_ ?_;exact Nat.le_refl _))))
theorem doneS (x0 x1 x2:Int) (w:World):Calls Tryz.prog 156 #[.agg #[.int .i64 x0,.int .i64 x1,.int .i64 x2]] w (Ret (.agg #[.int .i64 x0,.int .i64 x1,.int .i64 x2,.int .i64 0,.int .i64 0,.int .u64 0,.int .u64 0,.nilFunc,.pointer none]) w):=by
 go_enter Tryz.func156,Tryz.ntmps156
 go_wp2_with (go_at_call 222;refine (ownS x0 x1 x2 _).mono ?_;rintro e w' ⟨rfl,hx⟩;refine Hid.out ?_)
 refine Lib.hid ?_
 have hblk:=(hx.block (w.heap.size+1) (by simp)).trans (heap_at (w.alloc (.cells #[.int .i64 x0,.int .i64 x1,.int .i64 x2] 56)) _ _ (by simp))
 have hE:Ext w w':=by
  refine ext_trans ?_ hx
  repeat (first | exact ext_refl _ | apply ext_alloc)
 have hX:=put9_ext (b:=w.heap.size+1) (.int .i64 x0) (.int .i64 x1) (.int .i64 x2) (.int .i64 0) (.int .i64 0) (.int .u64 0) (.int .u64 0) (.nilFunc) (.pointer none) hE (by omega)
 have hB:=put9_block (.int .i64 x0) (.int .i64 x1) (.int .i64 x2) (.int .i64 0) (.int .i64 0) (.int .u64 0) (.int .u64 0) (.nilFunc) (.pointer none) hblk
 obtain ⟨c0,c1,c2,c3,c4,c5,c6,c7,c8,cz,ll⟩:=nin_of hblk
 rw [put9] at hX hB
 have HX:=Lib.hid hX
 have HB:=Lib.hid hB
 clear hX hB hx hE hblk
 go_wp2
 replace HX:=HX.out
 replace HB:=HB.out
 clear c0 c1 c2 c3 c4 c5 c6 c7 c8 cz ll
 generalize (World.setCell _ (⟨w.heap.size+1,8,none⟩ : Addr) _) = Z at HB HX ⊢
 obtain ⟨c0,c1,c2,c3,c4,c5,c6,c7,c8,cz,ll⟩:=nin_of HB
 exact bodyPost_ret (by simp only [results,Tryz.results156,go_sem];simp [go_sem,c0,c1,c2,c3,c4,c5,c6,c7,c8]) rfl (Ret.mk HX)
theorem overYS (x0 x1 x2:Int) (a1 a2 a3 a4:Int) (w:World):Calls Tryz.prog 150 #[.agg #[.int .i64 x0,.int .i64 x1,.int .i64 x2,.int .i64 a1,.int .i64 a2,.int .u64 a3,.int .u64 a4,.nilFunc,.pointer none]] w (Ret (.tuple #[.agg #[.int .i64 x0,.int .i64 x1,.int .i64 x2],.bool true]) w):=by
 have n0:∀ w,(binOp .neq 151 .nilFunc .nilFunc).run Tryz.prog w = .ok (.bool false) w:=fun w => neq_nil w fnS
 go_enter Tryz.func150,Tryz.ntmps150
 go_wp2_with (go_at_call 222;refine (ownS x0 x1 x2 _).mono ?_;rintro e w' ⟨rfl,hx⟩;refine Hid.out ?_)
 refine Lib.hid ?_
 have hblk:=(hx.block (w.heap.size+1) (by simp)).trans (heap_at (w.alloc (.cells #[.int .i64 x0,.int .i64 x1,.int .i64 x2,.int .i64 a1,.int .i64 a2,.int .u64 a3,.int .u64 a4,.nilFunc,.pointer none] 153)) _ _ (by simp))
 have hE:Ext w w':=by
  refine ext_trans ?_ hx
  repeat (first | exact ext_refl _ | apply ext_alloc)
 have hX:=put3_ext (b:=w.heap.size+1) (.int .i64 x0) (.int .i64 x1) (.int .i64 x2) hE (by omega)
 have hB:=put3_block (.int .i64 x0) (.int .i64 x1) (.int .i64 x2) hblk
 have c0:=cell_at (o:=0) hblk rfl
 have c1:=cell_at (o:=1) hblk rfl
 have c2:=cell_at (o:=2) hblk rfl
 have cz:∀ o,w'.frozen? ⟨w.heap.size+1,o,none⟩ = false:=fun _ => free_at hblk
 have ll:=heap_lt hblk
 rw [put3] at hX hB
 have HX:=Lib.hid hX
 have HB:=Lib.hid hB
 clear hX hB hx hE hblk
 go_wp2
 clear c0 c1 c2 cz ll
 replace HX:=HX.out
 replace HB:=HB.out
 generalize (World.setCell _ (⟨w.heap.size+1,2,none⟩ : Addr) _) = Z at HB HX ⊢
 have c0:=cell_at (o:=0) HB rfl
 have c1:=cell_at (o:=1) HB rfl
 have c2:=cell_at (o:=2) HB rfl
 exact bodyPost_ret (by simp only [results,Tryz.results150,go_sem];simp [go_sem,c0,c1,c2]) rfl (Ret.mk HX)
theorem ovnS (a:Acc) (f:Fn) (y z:Array Value) (w:World):Calls Tryz.prog 150 #[.agg #[.int .i64 0,.int .i64 0,.int .i64 0,.int .i64 a.op,.int .i64 a.at_,.int .u64 (U a.a),.int .u64 (U a.b),.func f y z,.pointer none]] w (Ret (.tuple #[.agg #[.int .i64 0,.int .i64 0,.int .i64 0],.bool false]) w):=by
 have n0:∀ f x y w,(binOp .neq 151 (.func f x y) .nilFunc).run Tryz.prog w = .ok (.bool true) w:=fun f x y w => neq_fn w fnS f x y
 go_enter Tryz.func150,Tryz.ntmps150
 go_wp2
 exact bodyPost_ret (v:=.tuple #[.agg #[.int .i64 0,.int .i64 0,.int .i64 0],.bool false]) (by simp [results,Tryz.results150,go_sem]) rfl (Ret.mk (by repeat (first | exact ext_refl _ | apply ext_alloc | (refine ext_set _ ?_ ?_;show w.heap.size ≤ _;simp))))
theorem shS {t:Tr St} {F:Nat → Prop} {v:Value} {w:World} (h:PT kS t F v w):∃ (y0 y1 y2:Int) (a:Acc) (fn:Value),v = .agg #[.int .i64 y0,.int .i64 y1,.int .i64 y2,.int .i64 a.op,.int .i64 a.at_,.int .u64 (U a.a),.int .u64 (U a.b),fn,.pointer none] ∧ (fn = .nilFunc ∨ ∃ g caps,fn = .func (.func g) #[] caps):=by
 cases t with
 | done r => exact ⟨_,_,_,_,_,h,.inl rfl⟩
 | ask a f => obtain ⟨g,caps,e,_⟩:=h;exact ⟨_,_,_,_,_,e,.inr ⟨g,caps,rfl⟩⟩
 | more => obtain ⟨a,g,caps,e,_⟩:=h;exact ⟨_,_,_,_,_,e,.inr ⟨g,caps,rfl⟩⟩
theorem doneS_PT (x:St) (w:World):Calls Tryz.prog 156 #[stV x] w (RetP (PT kS (.done x)) noF w):=
 (doneS x.g x.m x.k w).mono fun e w' ⟨h1,h2⟩ => ⟨_,noF,h1,h2,by show _ = kS.S _ _ _;simp [kS,vS3,at3,accZ,U_0],bnd_no _,fun _ h => h.elim⟩
theorem fnG:Tryz.prog.underlying 43 = some (.func #[40] #[46] false):=by kernel_rfl
theorem ownG (x0 x1 x2:Int) (w:World):Calls Tryz.prog 137 #[.agg #[.int .i64 x0,.int .i64 x1,.int .i64 x2]] w (Ret (.agg #[.int .i64 x0,.int .i64 x1,.int .i64 x2]) w):=by
 have ta:∀ v w,(Instr.typeAssert (.iface 278 v) 20 250 true).run Tryz.prog w = .ok (.tuple #[.pointer none,.bool false]) w:=fun v w => assert_no _ v w (by decide)
 go_enter Tryz.func137,Tryz.ntmps137
 go_wp2
 refine bodyPost_ret (v:=.agg #[.int .i64 x0,.int .i64 x1,.int .i64 x2]) (by simp [results,Tryz.results137,go_sem]) rfl (Ret.mk (by repeat (first | exact ext_refl _ | apply ext_alloc | (refine ext_set _ ?_ ?_;exact Nat.le_refl _))))
theorem doneG (x0 x1 x2:Int) (w:World):Calls Tryz.prog 69 #[.agg #[.int .i64 x0,.int .i64 x1,.int .i64 x2]] w (Ret (.agg #[.int .i64 x0,.int .i64 x1,.int .i64 x2,.int .i64 0,.int .i64 0,.int .u64 0,.int .u64 0,.nilFunc,.pointer none]) w):=by
 go_enter Tryz.func69,Tryz.ntmps69
 go_wp2_with (go_at_call 137;refine (ownG x0 x1 x2 _).mono ?_;rintro e w' ⟨rfl,hx⟩;refine Hid.out ?_)
 refine Lib.hid ?_
 have hblk:=(hx.block (w.heap.size+1) (by simp)).trans (heap_at (w.alloc (.cells #[.int .i64 x0,.int .i64 x1,.int .i64 x2] 37)) _ _ (by simp))
 have hE:Ext w w':=by
  refine ext_trans ?_ hx
  repeat (first | exact ext_refl _ | apply ext_alloc)
 have hX:=put9_ext (b:=w.heap.size+1) (.int .i64 x0) (.int .i64 x1) (.int .i64 x2) (.int .i64 0) (.int .i64 0) (.int .u64 0) (.int .u64 0) (.nilFunc) (.pointer none) hE (by omega)
 have hB:=put9_block (.int .i64 x0) (.int .i64 x1) (.int .i64 x2) (.int .i64 0) (.int .i64 0) (.int .u64 0) (.int .u64 0) (.nilFunc) (.pointer none) hblk
 obtain ⟨c0,c1,c2,c3,c4,c5,c6,c7,c8,cz,ll⟩:=nin_of hblk
 rw [put9] at hX hB
 have HX:=Lib.hid hX
 have HB:=Lib.hid hB
 clear hX hB hx hE hblk
 go_wp2
 replace HX:=HX.out
 replace HB:=HB.out
 clear c0 c1 c2 c3 c4 c5 c6 c7 c8 cz ll
 generalize (World.setCell _ (⟨w.heap.size+1,8,none⟩ : Addr) _) = Z at HB HX ⊢
 obtain ⟨c0,c1,c2,c3,c4,c5,c6,c7,c8,cz,ll⟩:=nin_of HB
 exact bodyPost_ret (by simp only [results,Tryz.results69,go_sem];simp [go_sem,c0,c1,c2,c3,c4,c5,c6,c7,c8]) rfl (Ret.mk HX)
theorem overYG (x0 x1 x2:Int) (a1 a2 a3 a4:Int) (w:World):Calls Tryz.prog 61 #[.agg #[.int .i64 x0,.int .i64 x1,.int .i64 x2,.int .i64 a1,.int .i64 a2,.int .u64 a3,.int .u64 a4,.nilFunc,.pointer none]] w (Ret (.tuple #[.agg #[.int .i64 x0,.int .i64 x1,.int .i64 x2],.bool true]) w):=by
 have n0:∀ w,(binOp .neq 43 .nilFunc .nilFunc).run Tryz.prog w = .ok (.bool false) w:=fun w => neq_nil w fnG
 go_enter Tryz.func61,Tryz.ntmps61
 go_wp2_with (go_at_call 137;refine (ownG x0 x1 x2 _).mono ?_;rintro e w' ⟨rfl,hx⟩;refine Hid.out ?_)
 refine Lib.hid ?_
 have hblk:=(hx.block (w.heap.size+1) (by simp)).trans (heap_at (w.alloc (.cells #[.int .i64 x0,.int .i64 x1,.int .i64 x2,.int .i64 a1,.int .i64 a2,.int .u64 a3,.int .u64 a4,.nilFunc,.pointer none] 46)) _ _ (by simp))
 have hE:Ext w w':=by
  refine ext_trans ?_ hx
  repeat (first | exact ext_refl _ | apply ext_alloc)
 have hX:=put3_ext (b:=w.heap.size+1) (.int .i64 x0) (.int .i64 x1) (.int .i64 x2) hE (by omega)
 have hB:=put3_block (.int .i64 x0) (.int .i64 x1) (.int .i64 x2) hblk
 have c0:=cell_at (o:=0) hblk rfl
 have c1:=cell_at (o:=1) hblk rfl
 have c2:=cell_at (o:=2) hblk rfl
 have cz:∀ o,w'.frozen? ⟨w.heap.size+1,o,none⟩ = false:=fun _ => free_at hblk
 have ll:=heap_lt hblk
 rw [put3] at hX hB
 have HX:=Lib.hid hX
 have HB:=Lib.hid hB
 clear hX hB hx hE hblk
 go_wp2
 clear c0 c1 c2 cz ll
 replace HX:=HX.out
 replace HB:=HB.out
 generalize (World.setCell _ (⟨w.heap.size+1,2,none⟩ : Addr) _) = Z at HB HX ⊢
 have c0:=cell_at (o:=0) HB rfl
 have c1:=cell_at (o:=1) HB rfl
 have c2:=cell_at (o:=2) HB rfl
 exact bodyPost_ret (by simp only [results,Tryz.results61,go_sem];simp [go_sem,c0,c1,c2]) rfl (Ret.mk HX)
theorem ovnG (a:Acc) (f:Fn) (y z:Array Value) (w:World):Calls Tryz.prog 61 #[.agg #[.int .i64 0,.int .i64 0,.int .i64 0,.int .i64 a.op,.int .i64 a.at_,.int .u64 (U a.a),.int .u64 (U a.b),.func f y z,.pointer none]] w (Ret (.tuple #[.agg #[.int .i64 0,.int .i64 0,.int .i64 0],.bool false]) w):=by
 have n0:∀ f x y w,(binOp .neq 43 (.func f x y) .nilFunc).run Tryz.prog w = .ok (.bool true) w:=fun f x y w => neq_fn w fnG f x y
 go_enter Tryz.func61,Tryz.ntmps61
 go_wp2
 exact bodyPost_ret (v:=.tuple #[.agg #[.int .i64 0,.int .i64 0,.int .i64 0],.bool false]) (by simp [results,Tryz.results61,go_sem]) rfl (Ret.mk (by repeat (first | exact ext_refl _ | apply ext_alloc | (refine ext_set _ ?_ ?_;show w.heap.size ≤ _;simp))))
theorem shG {t:Tr Gr} {F:Nat → Prop} {v:Value} {w:World} (h:PT kG t F v w):∃ (y0 y1 y2:Int) (a:Acc) (fn:Value),v = .agg #[.int .i64 y0,.int .i64 y1,.int .i64 y2,.int .i64 a.op,.int .i64 a.at_,.int .u64 (U a.a),.int .u64 (U a.b),fn,.pointer none] ∧ (fn = .nilFunc ∨ ∃ g caps,fn = .func (.func g) #[] caps):=by
 cases t with
 | done r => exact ⟨_,_,_,_,_,h,.inl rfl⟩
 | ask a f => obtain ⟨g,caps,e,_⟩:=h;exact ⟨_,_,_,_,_,e,.inr ⟨g,caps,rfl⟩⟩
 | more => obtain ⟨a,g,caps,e,_⟩:=h;exact ⟨_,_,_,_,_,e,.inr ⟨g,caps,rfl⟩⟩
theorem doneG_PT (x:Gr) (w:World):Calls Tryz.prog 69 #[grV x] w (RetP (PT kG (.done x)) noF w):=
 (doneG x.n x.g x.e w).mono fun e w' ⟨h1,h2⟩ => ⟨_,noF,h1,h2,by show _ = kG.S _ _ _;simp [kG,vS3,at3,accZ,U_0],bnd_no _,fun _ h => h.elim⟩
theorem tlS {t:Tr (St)} {F' G:Nat → Prop} {v':Value} {u w':World} {b:Nat} {c0 c1 c2 c3 c4 c5 c6 c7 c8:Value} {ty:TypeId} (hp:PT kS t F' v' w') (hX:Ext u w') (hbx:w'.heap[b]? = some (.cells #[c0,c1,c2,c3,c4,c5,c6,c7,c8] ty (0,0))) (hbn:Bnd F' w') (hsub:∀ j,F' j → G j ∨ u.heap.size ≤ j) (hnF:¬ F' b) (hb:u.heap.size ≤ b) :
  ∃ (y0 y1 y2:Int) (a2:Acc) (fn2:Value),v' = .agg #[.int .i64 y0,.int .i64 y1,.int .i64 y2,.int .i64 a2.op,.int .i64 a2.at_,.int .u64 (U a2.a),.int .u64 (U a2.b),fn2,.pointer none] ∧ Hid (fn2 = .nilFunc ∨ ∃ g caps,fn2 = .func (.func g) #[] caps) ∧ Hid (Ext u (((((((((w'.setCell ⟨b,0,none⟩ (.int .i64 y0)).setCell ⟨b,1,none⟩ (.int .i64 y1)).setCell ⟨b,2,none⟩ (.int .i64 y2)).setCell ⟨b,3,none⟩ (.int .i64 a2.op)).setCell ⟨b,4,none⟩ (.int .i64 a2.at_)).setCell ⟨b,5,none⟩ (.int .u64 (U a2.a))).setCell ⟨b,6,none⟩ (.int .u64 (U a2.b))).setCell ⟨b,7,none⟩ (fn2)).setCell ⟨b,8,none⟩ (.pointer none)) ∧ (((((((((w'.setCell ⟨b,0,none⟩ (.int .i64 y0)).setCell ⟨b,1,none⟩ (.int .i64 y1)).setCell ⟨b,2,none⟩ (.int .i64 y2)).setCell ⟨b,3,none⟩ (.int .i64 a2.op)).setCell ⟨b,4,none⟩ (.int .i64 a2.at_)).setCell ⟨b,5,none⟩ (.int .u64 (U a2.a))).setCell ⟨b,6,none⟩ (.int .u64 (U a2.b))).setCell ⟨b,7,none⟩ (fn2)).setCell ⟨b,8,none⟩ (.pointer none)).heap[b]? = some (.cells #[.int .i64 y0,.int .i64 y1,.int .i64 y2,.int .i64 a2.op,.int .i64 a2.at_,.int .u64 (U a2.a),.int .u64 (U a2.b),fn2,.pointer none] ty (0,0)) ∧ PT kS t F' (.agg #[.int .i64 y0,.int .i64 y1,.int .i64 y2,.int .i64 a2.op,.int .i64 a2.at_,.int .u64 (U a2.a),.int .u64 (U a2.b),fn2,.pointer none]) (((((((((w'.setCell ⟨b,0,none⟩ (.int .i64 y0)).setCell ⟨b,1,none⟩ (.int .i64 y1)).setCell ⟨b,2,none⟩ (.int .i64 y2)).setCell ⟨b,3,none⟩ (.int .i64 a2.op)).setCell ⟨b,4,none⟩ (.int .i64 a2.at_)).setCell ⟨b,5,none⟩ (.int .u64 (U a2.a))).setCell ⟨b,6,none⟩ (.int .u64 (U a2.b))).setCell ⟨b,7,none⟩ (fn2)).setCell ⟨b,8,none⟩ (.pointer none)) ∧ Bnd F' (((((((((w'.setCell ⟨b,0,none⟩ (.int .i64 y0)).setCell ⟨b,1,none⟩ (.int .i64 y1)).setCell ⟨b,2,none⟩ (.int .i64 y2)).setCell ⟨b,3,none⟩ (.int .i64 a2.op)).setCell ⟨b,4,none⟩ (.int .i64 a2.at_)).setCell ⟨b,5,none⟩ (.int .u64 (U a2.a))).setCell ⟨b,6,none⟩ (.int .u64 (U a2.b))).setCell ⟨b,7,none⟩ (fn2)).setCell ⟨b,8,none⟩ (.pointer none)) ∧ ∀ j,F' j → G j ∨ u.heap.size ≤ j):=by
 obtain ⟨y0,y1,y2,a2,fn2,rfl,hfn⟩:=shS hp
 have hS:(put9 b (.int .i64 y0) (.int .i64 y1) (.int .i64 y2) (.int .i64 a2.op) (.int .i64 a2.at_) (.int .u64 (U a2.a)) (.int .u64 (U a2.b)) (fn2) (.pointer none) w').heap.size = w'.heap.size:=put9_size (.int .i64 y0) (.int .i64 y1) (.int .i64 y2) (.int .i64 a2.op) (.int .i64 a2.at_) (.int .u64 (U a2.a)) (.int .u64 (U a2.b)) (fn2) (.pointer none)
 exact ⟨y0,y1,y2,a2,fn2,rfl,Lib.hid hfn,Lib.hid ⟨put9_ext (b:=b) (.int .i64 y0) (.int .i64 y1) (.int .i64 y2) (.int .i64 a2.op) (.int .i64 a2.at_) (.int .u64 (U a2.a)) (.int .u64 (U a2.b)) (fn2) (.pointer none) hX hb,put9_block (.int .i64 y0) (.int .i64 y1) (.int .i64 y2) (.int .i64 a2.op) (.int .i64 a2.at_) (.int .u64 (U a2.a)) (.int .u64 (U a2.b)) (fn2) (.pointer none) hbx,hp.agr (Agr.of_put9 (b:=b) (.int .i64 y0) (.int .i64 y1) (.int .i64 y2) (.int .i64 a2.op) (.int .i64 a2.at_) (.int .u64 (U a2.a)) (.int .u64 (U a2.b)) (fn2) (.pointer none) hnF),fun j hj => (by show j < (put9 b (.int .i64 y0) (.int .i64 y1) (.int .i64 y2) (.int .i64 a2.op) (.int .i64 a2.at_) (.int .u64 (U a2.a)) (.int .u64 (U a2.b)) (fn2) (.pointer none) w').heap.size;rw [hS];exact hbn j hj),hsub⟩⟩
theorem tlG {t:Tr (Gr)} {F' G:Nat → Prop} {v':Value} {u w':World} {b:Nat} {c0 c1 c2 c3 c4 c5 c6 c7 c8:Value} {ty:TypeId} (hp:PT kG t F' v' w') (hX:Ext u w') (hbx:w'.heap[b]? = some (.cells #[c0,c1,c2,c3,c4,c5,c6,c7,c8] ty (0,0))) (hbn:Bnd F' w') (hsub:∀ j,F' j → G j ∨ u.heap.size ≤ j) (hnF:¬ F' b) (hb:u.heap.size ≤ b) :
  ∃ (y0 y1 y2:Int) (a2:Acc) (fn2:Value),v' = .agg #[.int .i64 y0,.int .i64 y1,.int .i64 y2,.int .i64 a2.op,.int .i64 a2.at_,.int .u64 (U a2.a),.int .u64 (U a2.b),fn2,.pointer none] ∧ Hid (fn2 = .nilFunc ∨ ∃ g caps,fn2 = .func (.func g) #[] caps) ∧ Hid (Ext u (((((((((w'.setCell ⟨b,0,none⟩ (.int .i64 y0)).setCell ⟨b,1,none⟩ (.int .i64 y1)).setCell ⟨b,2,none⟩ (.int .i64 y2)).setCell ⟨b,3,none⟩ (.int .i64 a2.op)).setCell ⟨b,4,none⟩ (.int .i64 a2.at_)).setCell ⟨b,5,none⟩ (.int .u64 (U a2.a))).setCell ⟨b,6,none⟩ (.int .u64 (U a2.b))).setCell ⟨b,7,none⟩ (fn2)).setCell ⟨b,8,none⟩ (.pointer none)) ∧ (((((((((w'.setCell ⟨b,0,none⟩ (.int .i64 y0)).setCell ⟨b,1,none⟩ (.int .i64 y1)).setCell ⟨b,2,none⟩ (.int .i64 y2)).setCell ⟨b,3,none⟩ (.int .i64 a2.op)).setCell ⟨b,4,none⟩ (.int .i64 a2.at_)).setCell ⟨b,5,none⟩ (.int .u64 (U a2.a))).setCell ⟨b,6,none⟩ (.int .u64 (U a2.b))).setCell ⟨b,7,none⟩ (fn2)).setCell ⟨b,8,none⟩ (.pointer none)).heap[b]? = some (.cells #[.int .i64 y0,.int .i64 y1,.int .i64 y2,.int .i64 a2.op,.int .i64 a2.at_,.int .u64 (U a2.a),.int .u64 (U a2.b),fn2,.pointer none] ty (0,0)) ∧ PT kG t F' (.agg #[.int .i64 y0,.int .i64 y1,.int .i64 y2,.int .i64 a2.op,.int .i64 a2.at_,.int .u64 (U a2.a),.int .u64 (U a2.b),fn2,.pointer none]) (((((((((w'.setCell ⟨b,0,none⟩ (.int .i64 y0)).setCell ⟨b,1,none⟩ (.int .i64 y1)).setCell ⟨b,2,none⟩ (.int .i64 y2)).setCell ⟨b,3,none⟩ (.int .i64 a2.op)).setCell ⟨b,4,none⟩ (.int .i64 a2.at_)).setCell ⟨b,5,none⟩ (.int .u64 (U a2.a))).setCell ⟨b,6,none⟩ (.int .u64 (U a2.b))).setCell ⟨b,7,none⟩ (fn2)).setCell ⟨b,8,none⟩ (.pointer none)) ∧ Bnd F' (((((((((w'.setCell ⟨b,0,none⟩ (.int .i64 y0)).setCell ⟨b,1,none⟩ (.int .i64 y1)).setCell ⟨b,2,none⟩ (.int .i64 y2)).setCell ⟨b,3,none⟩ (.int .i64 a2.op)).setCell ⟨b,4,none⟩ (.int .i64 a2.at_)).setCell ⟨b,5,none⟩ (.int .u64 (U a2.a))).setCell ⟨b,6,none⟩ (.int .u64 (U a2.b))).setCell ⟨b,7,none⟩ (fn2)).setCell ⟨b,8,none⟩ (.pointer none)) ∧ ∀ j,F' j → G j ∨ u.heap.size ≤ j):=by
 obtain ⟨y0,y1,y2,a2,fn2,rfl,hfn⟩:=shG hp
 have hS:(put9 b (.int .i64 y0) (.int .i64 y1) (.int .i64 y2) (.int .i64 a2.op) (.int .i64 a2.at_) (.int .u64 (U a2.a)) (.int .u64 (U a2.b)) (fn2) (.pointer none) w').heap.size = w'.heap.size:=put9_size (.int .i64 y0) (.int .i64 y1) (.int .i64 y2) (.int .i64 a2.op) (.int .i64 a2.at_) (.int .u64 (U a2.a)) (.int .u64 (U a2.b)) (fn2) (.pointer none)
 exact ⟨y0,y1,y2,a2,fn2,rfl,Lib.hid hfn,Lib.hid ⟨put9_ext (b:=b) (.int .i64 y0) (.int .i64 y1) (.int .i64 y2) (.int .i64 a2.op) (.int .i64 a2.at_) (.int .u64 (U a2.a)) (.int .u64 (U a2.b)) (fn2) (.pointer none) hX hb,put9_block (.int .i64 y0) (.int .i64 y1) (.int .i64 y2) (.int .i64 a2.op) (.int .i64 a2.at_) (.int .u64 (U a2.a)) (.int .u64 (U a2.b)) (fn2) (.pointer none) hbx,hp.agr (Agr.of_put9 (b:=b) (.int .i64 y0) (.int .i64 y1) (.int .i64 y2) (.int .i64 a2.op) (.int .i64 a2.at_) (.int .u64 (U a2.a)) (.int .u64 (U a2.b)) (fn2) (.pointer none) hnF),fun j hj => (by show j < (put9 b (.int .i64 y0) (.int .i64 y1) (.int .i64 y2) (.int .i64 a2.op) (.int .i64 a2.at_) (.int .u64 (U a2.a)) (.int .u64 (U a2.b)) (fn2) (.pointer none) w').heap.size;rw [hS];exact hbn j hj),hsub⟩⟩
theorem fnR:Tryz.prog.underlying 97 = some (.func #[40] #[99] false):=by kernel_rfl
theorem ownR (x0 x1:Int) (w:World):Calls Tryz.prog 110 #[.agg #[.int .i64 x0,.int .u64 x1]] w (Ret (.agg #[.int .i64 x0,.int .u64 x1]) w):=by
 have ta:∀ v w,(Instr.typeAssert (.iface 252 v) 20 250 true).run Tryz.prog w = .ok (.tuple #[.pointer none,.bool false]) w:=fun v w => assert_no _ v w (by decide)
 go_enter Tryz.func110,Tryz.ntmps110
 go_wp2
 refine bodyPost_ret (v:=.agg #[.int .i64 x0,.int .u64 x1]) (by simp [results,Tryz.results110,go_sem]) rfl (Ret.mk (by repeat (first | exact ext_refl _ | apply ext_alloc | (refine ext_set _ ?_ ?_;exact Nat.le_refl _))))
theorem doneR (x0 x1:Int) (w:World):Calls Tryz.prog 176 #[.agg #[.int .i64 x0,.int .u64 x1]] w (Ret (.agg #[.int .i64 x0,.int .u64 x1,.int .i64 0,.int .i64 0,.int .u64 0,.int .u64 0,.nilFunc,.pointer none]) w):=by
 go_enter Tryz.func176,Tryz.ntmps176
 go_wp2_with (go_at_call 110;refine (ownR x0 x1 _).mono ?_;rintro e w' ⟨rfl,hx⟩;refine Hid.out ?_)
 refine Lib.hid ?_
 have hblk:=(hx.block (w.heap.size+1) (by simp)).trans (heap_at (w.alloc (.cells #[.int .i64 x0,.int .u64 x1] 94)) _ _ (by simp))
 have hE:Ext w w':=by
  refine ext_trans ?_ hx
  repeat (first | exact ext_refl _ | apply ext_alloc)
 have hX:=put8_ext (b:=w.heap.size+1) (.int .i64 x0) (.int .u64 x1) (.int .i64 0) (.int .i64 0) (.int .u64 0) (.int .u64 0) (.nilFunc) (.pointer none) hE (by omega)
 have hB:=put8_block (.int .i64 x0) (.int .u64 x1) (.int .i64 0) (.int .i64 0) (.int .u64 0) (.int .u64 0) (.nilFunc) (.pointer none) hblk
 obtain ⟨c0,c1,c2,c3,c4,c5,c6,c7,cz,ll⟩:=eit_of hblk
 rw [put8] at hX hB
 have HX:=Lib.hid hX
 have HB:=Lib.hid hB
 clear hX hB hx hE hblk
 go_wp2
 replace HX:=HX.out
 replace HB:=HB.out
 clear c0 c1 c2 c3 c4 c5 c6 c7 cz ll
 generalize (World.setCell _ (⟨w.heap.size+1,7,none⟩ : Addr) _) = Z at HB HX ⊢
 obtain ⟨c0,c1,c2,c3,c4,c5,c6,c7,cz,ll⟩:=eit_of HB
 exact bodyPost_ret (by simp only [results,Tryz.results176,go_sem];simp [go_sem,c0,c1,c2,c3,c4,c5,c6,c7]) rfl (Ret.mk HX)
theorem overYR (x0 x1:Int) (a1 a2 a3 a4:Int) (w:World):Calls Tryz.prog 45 #[.agg #[.int .i64 x0,.int .u64 x1,.int .i64 a1,.int .i64 a2,.int .u64 a3,.int .u64 a4,.nilFunc,.pointer none]] w (Ret (.tuple #[.agg #[.int .i64 x0,.int .u64 x1],.bool true]) w):=by
 have n0:∀ w,(binOp .neq 97 .nilFunc .nilFunc).run Tryz.prog w = .ok (.bool false) w:=fun w => neq_nil w fnR
 go_enter Tryz.func45,Tryz.ntmps45
 go_wp2_with (go_at_call 110;refine (ownR x0 x1 _).mono ?_;rintro e w' ⟨rfl,hx⟩;refine Hid.out ?_)
 refine Lib.hid ?_
 have hblk:=(hx.block (w.heap.size+1) (by simp)).trans (heap_at (w.alloc (.cells #[.int .i64 x0,.int .u64 x1,.int .i64 a1,.int .i64 a2,.int .u64 a3,.int .u64 a4,.nilFunc,.pointer none] 99)) _ _ (by simp))
 have hE:Ext w w':=by
  refine ext_trans ?_ hx
  repeat (first | exact ext_refl _ | apply ext_alloc)
 have hX:=put2_ext (b:=w.heap.size+1) (.int .i64 x0) (.int .u64 x1) hE (by omega)
 have hB:=put2_block (.int .i64 x0) (.int .u64 x1) hblk
 have c0:=cell_at (o:=0) hblk rfl
 have c1:=cell_at (o:=1) hblk rfl
 have cz:∀ o,w'.frozen? ⟨w.heap.size+1,o,none⟩ = false:=fun _ => free_at hblk
 have ll:=heap_lt hblk
 rw [put2] at hX hB
 have HX:=Lib.hid hX
 have HB:=Lib.hid hB
 clear hX hB hx hE hblk
 go_wp2
 clear c0 c1 cz ll
 replace HX:=HX.out
 replace HB:=HB.out
 generalize (World.setCell _ (⟨w.heap.size+1,1,none⟩ : Addr) _) = Z at HB HX ⊢
 have c0:=cell_at (o:=0) HB rfl
 have c1:=cell_at (o:=1) HB rfl
 exact bodyPost_ret (by simp only [results,Tryz.results45,go_sem];simp [go_sem,c0,c1]) rfl (Ret.mk HX)
theorem ovnR (a:Acc) (f:Fn) (y z:Array Value) (w:World):Calls Tryz.prog 45 #[.agg #[.int .i64 0,.int .u64 0,.int .i64 a.op,.int .i64 a.at_,.int .u64 (U a.a),.int .u64 (U a.b),.func f y z,.pointer none]] w (Ret (.tuple #[.agg #[.int .i64 0,.int .u64 0],.bool false]) w):=by
 have n0:∀ f x y w,(binOp .neq 97 (.func f x y) .nilFunc).run Tryz.prog w = .ok (.bool true) w:=fun f x y w => neq_fn w fnR f x y
 go_enter Tryz.func45,Tryz.ntmps45
 go_wp2
 exact bodyPost_ret (v:=.tuple #[.agg #[.int .i64 0,.int .u64 0],.bool false]) (by simp [results,Tryz.results45,go_sem]) rfl (Ret.mk (by repeat (first | exact ext_refl _ | apply ext_alloc | (refine ext_set _ ?_ ?_;show w.heap.size ≤ _;simp))))
theorem shR {t:Tr Rz} {F:Nat → Prop} {v:Value} {w:World} (h:PT kR t F v w):∃ (y0 y1:Int) (a:Acc) (fn:Value),v = .agg #[.int .i64 y0,.int .u64 y1,.int .i64 a.op,.int .i64 a.at_,.int .u64 (U a.a),.int .u64 (U a.b),fn,.pointer none] ∧ (fn = .nilFunc ∨ ∃ g caps,fn = .func (.func g) #[] caps):=by
 cases t with
 | done r => exact ⟨_,_,_,_,h,.inl rfl⟩
 | ask a f => obtain ⟨g,caps,e,_⟩:=h;exact ⟨_,_,_,_,e,.inr ⟨g,caps,rfl⟩⟩
 | more => obtain ⟨a,g,caps,e,_⟩:=h;exact ⟨_,_,_,_,e,.inr ⟨g,caps,rfl⟩⟩
theorem doneR_PT (x:Rz) (w:World):Calls Tryz.prog 176 #[rzV x] w (RetP (PT kR (.done x)) noF w):=
 (doneR x.e (U x.v) w).mono fun e w' ⟨h1,h2⟩ => ⟨_,noF,h1,h2,by show _ = kR.S _ _ _;simp [kR,vS2,at3,accZ,U_0],bnd_no _,fun _ h => h.elim⟩
theorem tlR {t:Tr (Rz)} {F' G:Nat → Prop} {v':Value} {u w':World} {b:Nat} {c0 c1 c2 c3 c4 c5 c6 c7:Value} {ty:TypeId} (hp:PT kR t F' v' w') (hX:Ext u w') (hbx:w'.heap[b]? = some (.cells #[c0,c1,c2,c3,c4,c5,c6,c7] ty (0,0))) (hbn:Bnd F' w') (hsub:∀ j,F' j → G j ∨ u.heap.size ≤ j) (hnF:¬ F' b) (hb:u.heap.size ≤ b) :
  ∃ (y0 y1:Int) (a2:Acc) (fn2:Value),v' = .agg #[.int .i64 y0,.int .u64 y1,.int .i64 a2.op,.int .i64 a2.at_,.int .u64 (U a2.a),.int .u64 (U a2.b),fn2,.pointer none] ∧ Hid (fn2 = .nilFunc ∨ ∃ g caps,fn2 = .func (.func g) #[] caps) ∧ Hid (Ext u ((((((((w'.setCell ⟨b,0,none⟩ (.int .i64 y0)).setCell ⟨b,1,none⟩ (.int .u64 y1)).setCell ⟨b,2,none⟩ (.int .i64 a2.op)).setCell ⟨b,3,none⟩ (.int .i64 a2.at_)).setCell ⟨b,4,none⟩ (.int .u64 (U a2.a))).setCell ⟨b,5,none⟩ (.int .u64 (U a2.b))).setCell ⟨b,6,none⟩ (fn2)).setCell ⟨b,7,none⟩ (.pointer none)) ∧ ((((((((w'.setCell ⟨b,0,none⟩ (.int .i64 y0)).setCell ⟨b,1,none⟩ (.int .u64 y1)).setCell ⟨b,2,none⟩ (.int .i64 a2.op)).setCell ⟨b,3,none⟩ (.int .i64 a2.at_)).setCell ⟨b,4,none⟩ (.int .u64 (U a2.a))).setCell ⟨b,5,none⟩ (.int .u64 (U a2.b))).setCell ⟨b,6,none⟩ (fn2)).setCell ⟨b,7,none⟩ (.pointer none)).heap[b]? = some (.cells #[.int .i64 y0,.int .u64 y1,.int .i64 a2.op,.int .i64 a2.at_,.int .u64 (U a2.a),.int .u64 (U a2.b),fn2,.pointer none] ty (0,0)) ∧ PT kR t F' (.agg #[.int .i64 y0,.int .u64 y1,.int .i64 a2.op,.int .i64 a2.at_,.int .u64 (U a2.a),.int .u64 (U a2.b),fn2,.pointer none]) ((((((((w'.setCell ⟨b,0,none⟩ (.int .i64 y0)).setCell ⟨b,1,none⟩ (.int .u64 y1)).setCell ⟨b,2,none⟩ (.int .i64 a2.op)).setCell ⟨b,3,none⟩ (.int .i64 a2.at_)).setCell ⟨b,4,none⟩ (.int .u64 (U a2.a))).setCell ⟨b,5,none⟩ (.int .u64 (U a2.b))).setCell ⟨b,6,none⟩ (fn2)).setCell ⟨b,7,none⟩ (.pointer none)) ∧ Bnd F' ((((((((w'.setCell ⟨b,0,none⟩ (.int .i64 y0)).setCell ⟨b,1,none⟩ (.int .u64 y1)).setCell ⟨b,2,none⟩ (.int .i64 a2.op)).setCell ⟨b,3,none⟩ (.int .i64 a2.at_)).setCell ⟨b,4,none⟩ (.int .u64 (U a2.a))).setCell ⟨b,5,none⟩ (.int .u64 (U a2.b))).setCell ⟨b,6,none⟩ (fn2)).setCell ⟨b,7,none⟩ (.pointer none)) ∧ ∀ j,F' j → G j ∨ u.heap.size ≤ j):=by
 obtain ⟨y0,y1,a2,fn2,rfl,hfn⟩:=shR hp
 have hS:(put8 b (.int .i64 y0) (.int .u64 y1) (.int .i64 a2.op) (.int .i64 a2.at_) (.int .u64 (U a2.a)) (.int .u64 (U a2.b)) (fn2) (.pointer none) w').heap.size = w'.heap.size:=put8_size (.int .i64 y0) (.int .u64 y1) (.int .i64 a2.op) (.int .i64 a2.at_) (.int .u64 (U a2.a)) (.int .u64 (U a2.b)) (fn2) (.pointer none)
 exact ⟨y0,y1,a2,fn2,rfl,Lib.hid hfn,Lib.hid ⟨put8_ext (b:=b) (.int .i64 y0) (.int .u64 y1) (.int .i64 a2.op) (.int .i64 a2.at_) (.int .u64 (U a2.a)) (.int .u64 (U a2.b)) (fn2) (.pointer none) hX hb,put8_block (.int .i64 y0) (.int .u64 y1) (.int .i64 a2.op) (.int .i64 a2.at_) (.int .u64 (U a2.a)) (.int .u64 (U a2.b)) (fn2) (.pointer none) hbx,hp.agr (Agr.of_put8 (b:=b) (.int .i64 y0) (.int .u64 y1) (.int .i64 a2.op) (.int .i64 a2.at_) (.int .u64 (U a2.a)) (.int .u64 (U a2.b)) (fn2) (.pointer none) hnF),fun j hj => (by show j < (put8 b (.int .i64 y0) (.int .u64 y1) (.int .i64 a2.op) (.int .i64 a2.at_) (.int .u64 (U a2.a)) (.int .u64 (U a2.b)) (fn2) (.pointer none) w').heap.size;rw [hS];exact hbn j hj),hsub⟩⟩
end Go.Proofs.YthjklbonebnekaaGreat

