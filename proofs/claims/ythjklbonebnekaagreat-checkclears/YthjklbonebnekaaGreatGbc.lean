/-
  What the call of leave comes to. Conditions: those of each theorem.
-/
import Derived.Test.YthjklbonebnekaaGreatGba
import Derived.Test.YthjklbonebnekaaGreatGbb
set_option maxRecDepth 8000
set_option maxHeartbeats 4000000
namespace Go.Proofs.YthjklbonebnekaaGreat
open Go Go.RowKit
def AG (a b:Int) (tr:Tr Int) (F:Nat → Prop) (fn:Value) (w:World):Prop:=
 ∃ g caps,fn = .func (.func g) #[] caps ∧ Enters g ∧ ∀ w',Agr F w w' → Calls Tryz.prog g (#[.agg #[.int .i64 a,.int .i64 b]] ++ caps) w' (RetP (PT kI tr) F w')
theorem AG.agr {a b:Int} {tr:Tr Int} {F:Nat → Prop} {fn:Value} {w w':World} (h:AG a b tr F fn w) (ha:Agr F w w'):AG a b tr F fn w':=by
 obtain ⟨g,caps,e,he,hc⟩:=h
 exact ⟨g,caps,e,he,fun u hu => hc u (ha.trans hu)⟩
theorem lv4_PT (were left:Int) (tr:Tr Int) (y:Int) (F:Nat → Prop) (g:FuncId) (caps:Array Value) (B1 B2:Nat) (w:World) (hA:AG were left tr F (.func (.func g) #[] caps) w) (k1:w.heap[B1]? = some (.cells #[.func (.func g) #[] caps] 294 (0,0))) (k2:w.heap[B2]? = some (.cells #[.int .i64 were,.int .i64 left] 284 (0,0))) (hF:Bnd F w) :
  Calls Tryz.prog 259 #[.int .i64 y,.pointer (some ⟨B1,0,none⟩),.pointer (some ⟨B2,0,none⟩)] w (RetP (PT kI (tr)) F w):=by
 obtain ⟨g',caps',e,hg,hc⟩:=hA
 cases e
 have HN:=Lib.hid hc
 have d1:=cell_at (o:=0) k1 rfl
 have d2:=cell_at (o:=0) k2 rfl
 have d3:=cell_at (o:=1) k2 rfl
 have l1:=cell_lt d1
 have l2:=cell_lt d2
 unfold Enters at hg
 clear hc k1 k2
 have hnF0:¬ F w.heap.size:=fun h => by have:=hF _ h;omega
 replace hnF0:=Lib.hid hnF0
 go_enter Tryz.func259,Tryz.ntmps259
 go_wp2_with (refine (HN.out _ (Agr.of_ext (by repeat (first | exact ext_refl _ | apply ext_alloc)) hF)).mono ?_;rintro e w' hR;obtain ⟨v',F',rfl,hX,hp,hbn,hsub,hnF,hbq⟩:=hR.tail (G:=F) w.heap.size (ext_alloc _ (ext_refl w)) (by simp) hnF0.out (fun j h => .inl h);refine Hid.out ?_)
 refine Lib.hid ?_
 have hbx:=hbq.trans (heap_at w _ _ rfl)
 clear hbq hR HN
 obtain ⟨y,a2,fn2,rfl,HFN,HX⟩:=tlI hp hX hbx hbn hsub hnF (by omega)
 obtain ⟨c0,c1,c2,c3,c4,c5,c6,cz,ll⟩:=sev_of hbx
 clear hX hbx hp hbn hsub hnF
 rcases HFN.out with rfl | ⟨g',caps',rfl⟩
 all_goals
  go_wp2
  clear c0 c1 c2 c3 c4 c5 c6 cz ll
  obtain ⟨hX,hB,hP⟩:=HX.out
  clear HX
  generalize (World.setCell _ (⟨w.heap.size,6,none⟩ : Addr) _) = Z at hX hB hP ⊢
  obtain ⟨c0,c1,c2,c3,c4,c5,c6,cz,ll⟩:=sev_of hB
  exact bodyPost_ret (by simp only [results,Tryz.results259,go_sem];simp [go_sem,c0,c1,c2,c3,c4,c5,c6]) rfl ⟨_,F',rfl,hX,hP⟩
theorem lv4_CT (were left:Int) (tr:Tr Int) (F:Nat → Prop) (g:FuncId) (caps:Array Value) (B1 B2:Nat) (w:World) (hA:AG were left tr F (.func (.func g) #[] caps) w) (k1:w.heap[B1]? = some (.cells #[.func (.func g) #[] caps] 294 (0,0))) (k2:w.heap[B2]? = some (.cells #[.int .i64 were,.int .i64 left] 284 (0,0))) (hF:Bnd F w) :
  CT kI kI (fun _ => tr) (fun j => F j ∨ j = B1 ∨ j = B2) (.func (.func 259) #[] #[.pointer (some ⟨B1,0,none⟩),.pointer (some ⟨B2,0,none⟩)]) w:=by
 refine ⟨_,_,rfl,enters_of Tryz.func259 (by kernel_rfl) rfl,fun y w' ha => ?_⟩
 have hFw:Agr F w w':=ha.sub fun j h => .inl h
 exact (lv4_PT were left tr y F g caps B1 B2 w' (hA.agr hFw) ((ha B1 (.inr (.inl rfl))).trans k1) ((ha B2 (.inr (.inr rfl))).trans k2) (hF.agr hFw)).mono fun _ _ h => h.mono fun j h => .inl h
theorem lv3_PT (p:Pl) (n:Int) (N:Nat) (were left:Int) (tr:Tr Int) (F:Nat → Prop) (g:FuncId) (caps:Array Value) (B1 B2 B3 B4:Nat) (w:World) (hA:AG were left tr F (.func (.func g) #[] caps) w) (k1:PBox B1 p w) (k2:w.heap[B2]? = some (.cells #[.int .i64 n] 3 (0,0))) (k3:w.heap[B3]? = some (.cells #[.func (.func g) #[] caps] 294 (0,0))) (k4:w.heap[B4]? = some (.cells #[.int .i64 were,.int .i64 left] 284 (0,0))) (hF:Bnd F w) :
  Calls Tryz.prog 257 #[.agg #[],.pointer (some ⟨B1,0,none⟩),.pointer (some ⟨B2,0,none⟩),.pointer (some ⟨B3,0,none⟩),.pointer (some ⟨B4,0,none⟩)] w (RetP (PT kI (lv3T p n N tr)) (fun j => F j ∨ j = B3 ∨ j = B4) w):=by
 have qk1:=heap_lt k1
 have ⟨c0,c1,c2,c3,c4,c5,lt⟩:=PBox.plc k1
 have qk2:=heap_lt k2
 have d2_0:=cell_at (o:=0) k2 rfl
 have e2:=cell_lt d2_0
 have qk3:=heap_lt k3
 have d3_0:=cell_at (o:=0) k3 rfl
 have e3:=cell_lt d3_0
 have qk4:=heap_lt k4
 have d4_0:=cell_at (o:=0) k4 rfl
 have d4_1:=cell_at (o:=1) k4 rfl
 have e4:=cell_lt d4_0
 replace k1:=Lib.hid k1
 replace k2:=Lib.hid k2
 replace k3:=Lib.hid k3
 replace k4:=Lib.hid k4
 replace hA:=Lib.hid hA
 go_enter Tryz.func257,Tryz.ntmps257
 go_wp2_with (go_at_call 258;refine Hid.out ?_)
 refine Lib.hid ?_
 have ⟨hE,hb0,hb1,hW⟩:=al2 w (.cells #[] 132) (.cells #[.int .i64 0,.int .i64 0,.int .i64 0,.int .u64 0,.int .u64 0,.nilFunc,.pointer none] 62)
 generalize ((w.alloc (.cells #[] 132)).alloc (.cells #[.int .i64 0,.int .i64 0,.int .i64 0,.int .u64 0,.int .u64 0,.nilFunc,.pointer none] 62)) = W at hE hb0 hb1 hW ⊢
 replace k1:=(hE.block _ (heap_lt k1.out)).trans k1.out
 replace k2:=(hE.block _ (heap_lt k2.out)).trans k2.out
 replace k3:=(hE.block _ (heap_lt k3.out)).trans k3.out
 replace k4:=(hE.block _ (heap_lt k4.out)).trans k4.out
 clear hW
 clear c0 c1 c2 c3 c4 c5 lt d2_0 e2 d3_0 e3 d4_0 d4_1 e4
 refine (rcl_PT p n N W).mono ?_
 rintro e w1 ⟨v1,F1,rfl,hx,hp1,hbn1,hsub⟩
 have hn1:¬ F1 (w.heap.size+1):=fun h => (hsub _ h).elim (fun h => h) fun h => by have:=heap_lt hb1;omega
 have hs1:∀ j,F1 j → noF j ∨ w.heap.size ≤ j:=fun j hj => (hsub j hj).imp_right fun h => Nat.le_trans hE.size h
 replace hE:=ext_trans hE hx
 replace hb0:=(hx.block _ (heap_lt hb0)).trans hb0
 replace hb1:=(hx.block _ (heap_lt hb1)).trans hb1
 replace k1:=(hx.block _ (heap_lt k1)).trans k1
 replace k2:=(hx.block _ (heap_lt k2)).trans k2
 replace k3:=(hx.block _ (heap_lt k3)).trans k3
 replace k4:=(hx.block _ (heap_lt k4)).trans k4
 clear hx hsub
 replace hE:=Lib.hid hE
 replace hb0:=Lib.hid hb0
 replace hb1:=Lib.hid hb1
 replace k1:=Lib.hid k1
 replace k2:=Lib.hid k2
 replace k3:=Lib.hid k3
 replace k4:=Lib.hid k4
 replace hp1:=Lib.hid hp1
 replace hbn1:=Lib.hid hbn1
 replace hs1:=Lib.hid hs1
 replace hn1:=Lib.hid hn1
 go_wp2_with (go_at_call 146;refine Hid.out ?_)
 refine Lib.hid ?_
 replace hE:=hE.out
 replace hb0:=hb0.out
 replace hb1:=hb1.out
 replace k1:=k1.out
 replace k2:=k2.out
 replace k3:=k3.out
 replace k4:=k4.out
 replace hp1:=hp1.out
 replace hbn1:=hbn1.out
 replace hs1:=hs1.out
 replace hn1:=hn1.out
 have hCT:=lv4_CT were left tr F g caps B3 B4 w1 (hA.out.agr (Agr.of_ext hE hF)) k3 k4 (hF.ext hE.size)
 refine (then_II _ _ F1 _ v1 _ w1 hp1 hCT hbn1 (fun j h => by rcases h with h | rfl | rfl;exact Nat.lt_of_lt_of_le (hF j h) hE.size;exact heap_lt k3;exact heap_lt k4)).mono ?_
 rintro e w' hR
 obtain ⟨v',F',rfl,hX,hp,hbn,hsub,hnF,hbq⟩:=hR.tail (G:=(fun j => F j ∨ j = B3 ∨ j = B4)) (w.heap.size+1) hE (heap_lt hb1) (fun h => by rcases h with h | h | h | h;exact hn1 h;(have:=hF _ h;omega);omega;omega) (fun j h => by rcases h with h | h | h | h;exact (hs1 j h).imp_left False.elim;exact .inl (.inl h);exact .inl (.inr (.inl h));exact .inl (.inr (.inr h)))
 have hbx:=hbq.trans hb1
 clear hbq hR
 clear hE hb0 hb1 k1 k2 k3 k4 hp1 hbn1 hs1 hn1 hA hCT
 obtain ⟨y,a2,fn2,rfl,HFN,HX⟩:=tlI hp hX hbx hbn hsub hnF (by omega)
 obtain ⟨c0,c1,c2,c3,c4,c5,c6,cz,ll⟩:=sev_of hbx
 clear hX hbx hp hbn hsub hnF
 rcases HFN.out with rfl | ⟨g',caps',rfl⟩
 all_goals
  go_wp2
  clear c0 c1 c2 c3 c4 c5 c6 cz ll
  obtain ⟨hX,hB,hP⟩:=HX.out
  clear HX
  generalize (World.setCell _ (⟨w.heap.size+1,6,none⟩ : Addr) _) = Z at hX hB hP ⊢
  obtain ⟨c0,c1,c2,c3,c4,c5,c6,cz,ll⟩:=sev_of hB
  exact bodyPost_ret (by simp only [results,Tryz.results257,go_sem];simp [go_sem,c0,c1,c2,c3,c4,c5,c6]) rfl ⟨_,F',rfl,hX,hP⟩
theorem lv3_CT (p:Pl) (n:Int) (N:Nat) (were left:Int) (tr:Tr Int) (F:Nat → Prop) (g:FuncId) (caps:Array Value) (B1 B2 B3 B4:Nat) (w:World) (hA:AG were left tr F (.func (.func g) #[] caps) w) (k1:PBox B1 p w) (k2:w.heap[B2]? = some (.cells #[.int .i64 n] 3 (0,0))) (k3:w.heap[B3]? = some (.cells #[.func (.func g) #[] caps] 294 (0,0))) (k4:w.heap[B4]? = some (.cells #[.int .i64 were,.int .i64 left] 284 (0,0))) (hF:Bnd F w) :
  CT kN kI (fun _ => lv3T p n N tr) (fun j => F j ∨ j = B1 ∨ j = B2 ∨ j = B3 ∨ j = B4) (.func (.func 257) #[] #[.pointer (some ⟨B1,0,none⟩),.pointer (some ⟨B2,0,none⟩),.pointer (some ⟨B3,0,none⟩),.pointer (some ⟨B4,0,none⟩)]) w:=by
 refine ⟨_,_,rfl,enters_of Tryz.func257 (by kernel_rfl) rfl,fun _ w' ha => ?_⟩
 have hFw:Agr F w w':=ha.sub fun j h => .inl h
 exact (lv3_PT p n N were left tr F g caps  B1 B2 B3 B4 w' (hA.agr hFw) ((ha B1 (.inr (.inl rfl))).trans k1) ((ha B2 (.inr (.inr (.inl rfl)))).trans k2) ((ha B3 (.inr (.inr (.inr (.inl rfl))))).trans k3) ((ha B4 (.inr (.inr (.inr (.inr rfl))))).trans k4) (hF.agr hFw)).mono fun _ _ h => h.mono fun j h => h.elim .inl fun h => .inr (h.elim (fun h => .inr (.inr (.inl h))) fun h => .inr (.inr (.inr h)))
theorem lv2_PT (p:Pl) (t n:Int) (N:Nat) (were left:Int) (tr:Tr Int) (F:Nat → Prop) (g:FuncId) (caps:Array Value) (B1 B2 B3 B4 B5:Nat) (w:World) (hA:AG were left tr F (.func (.func g) #[] caps) w) (h0:0 ≤ left) (h1:left ≤ 1024) (k1:PBox B1 p w) (k2:w.heap[B2]? = some (.cells #[.int .i64 t] 3 (0,0))) (k3:w.heap[B3]? = some (.cells #[.int .i64 were,.int .i64 left] 284 (0,0))) (k4:w.heap[B4]? = some (.cells #[.int .i64 n] 3 (0,0))) (k5:w.heap[B5]? = some (.cells #[.func (.func g) #[] caps] 294 (0,0))) (hF:Bnd F w) :
  Calls Tryz.prog 256 #[.agg #[],.pointer (some ⟨B1,0,none⟩),.pointer (some ⟨B2,0,none⟩),.pointer (some ⟨B3,0,none⟩),.pointer (some ⟨B4,0,none⟩),.pointer (some ⟨B5,0,none⟩)] w (RetP (PT kI (lv2T p t n N left tr)) (fun j => F j ∨ j = B1 ∨ j = B3 ∨ j = B4 ∨ j = B5) w):=by
 have qk1:=heap_lt k1
 have ⟨c0,c1,c2,c3,c4,c5,lt⟩:=PBox.plc k1
 have qk2:=heap_lt k2
 have d2_0:=cell_at (o:=0) k2 rfl
 have e2:=cell_lt d2_0
 have qk3:=heap_lt k3
 have d3_0:=cell_at (o:=0) k3 rfl
 have d3_1:=cell_at (o:=1) k3 rfl
 have e3:=cell_lt d3_0
 have qk4:=heap_lt k4
 have d4_0:=cell_at (o:=0) k4 rfl
 have e4:=cell_lt d4_0
 have qk5:=heap_lt k5
 have d5_0:=cell_at (o:=0) k5 rfl
 have e5:=cell_lt d5_0
 replace k1:=Lib.hid k1
 replace k2:=Lib.hid k2
 replace k3:=Lib.hid k3
 replace k4:=Lib.hid k4
 replace k5:=Lib.hid k5
 replace hA:=Lib.hid hA
 go_enter Tryz.func256,Tryz.ntmps256
 go_wp2_with (go_at_call 230;refine Hid.out ?_)
 refine Lib.hid ?_
 have ⟨hE,hb0,hb1,hW⟩:=al2 w (.cells #[] 132) (.cells #[.int .i64 0,.int .i64 0,.int .i64 0,.int .u64 0,.int .u64 0,.nilFunc,.pointer none] 62)
 generalize ((w.alloc (.cells #[] 132)).alloc (.cells #[.int .i64 0,.int .i64 0,.int .i64 0,.int .u64 0,.int .u64 0,.nilFunc,.pointer none] 62)) = W at hE hb0 hb1 hW ⊢
 replace k1:=(hE.block _ (heap_lt k1.out)).trans k1.out
 replace k2:=(hE.block _ (heap_lt k2.out)).trans k2.out
 replace k3:=(hE.block _ (heap_lt k3.out)).trans k3.out
 replace k4:=(hE.block _ (heap_lt k4.out)).trans k4.out
 replace k5:=(hE.block _ (heap_lt k5.out)).trans k5.out
 clear hW
 clear c0 c1 c2 c3 c4 c5 lt d2_0 e2 d3_0 d3_1 e3 d4_0 e4 d5_0 e5
 refine (rpc_PT p t left W h0 (by omega)).mono ?_
 rintro e w1 ⟨v1,F1,rfl,hx,hp1,hbn1,hsub⟩
 have hn1:¬ F1 (w.heap.size+1):=fun h => (hsub _ h).elim (fun h => h) fun h => by have:=heap_lt hb1;omega
 have hs1:∀ j,F1 j → noF j ∨ w.heap.size ≤ j:=fun j hj => (hsub j hj).imp_right fun h => Nat.le_trans hE.size h
 replace hE:=ext_trans hE hx
 replace hb0:=(hx.block _ (heap_lt hb0)).trans hb0
 replace hb1:=(hx.block _ (heap_lt hb1)).trans hb1
 replace k1:=(hx.block _ (heap_lt k1)).trans k1
 replace k2:=(hx.block _ (heap_lt k2)).trans k2
 replace k3:=(hx.block _ (heap_lt k3)).trans k3
 replace k4:=(hx.block _ (heap_lt k4)).trans k4
 replace k5:=(hx.block _ (heap_lt k5)).trans k5
 clear hx hsub
 replace hE:=Lib.hid hE
 replace hb0:=Lib.hid hb0
 replace hb1:=Lib.hid hb1
 replace k1:=Lib.hid k1
 replace k2:=Lib.hid k2
 replace k3:=Lib.hid k3
 replace k4:=Lib.hid k4
 replace k5:=Lib.hid k5
 replace hp1:=Lib.hid hp1
 replace hbn1:=Lib.hid hbn1
 replace hs1:=Lib.hid hs1
 replace hn1:=Lib.hid hn1
 go_wp2_with (go_at_call 227;refine Hid.out ?_)
 refine Lib.hid ?_
 replace hE:=hE.out
 replace hb0:=hb0.out
 replace hb1:=hb1.out
 replace k1:=k1.out
 replace k2:=k2.out
 replace k3:=k3.out
 replace k4:=k4.out
 replace k5:=k5.out
 replace hp1:=hp1.out
 replace hbn1:=hbn1.out
 replace hs1:=hs1.out
 replace hn1:=hn1.out
 have hCT:=lv3_CT p n N were left tr F g caps B1 B4 B5 B3 w1 (hA.out.agr (Agr.of_ext hE hF)) k1 k4 k5 k3 (hF.ext hE.size)
 refine (then_NI _ _ F1 _ v1 _ w1 hp1 hCT hbn1 (fun j h => by rcases h with h | rfl | rfl | rfl | rfl;exact Nat.lt_of_lt_of_le (hF j h) hE.size;exact heap_lt k1;exact heap_lt k4;exact heap_lt k5;exact heap_lt k3)).mono ?_
 rintro e w' hR
 obtain ⟨v',F',rfl,hX,hp,hbn,hsub,hnF,hbq⟩:=hR.tail (G:=(fun j => F j ∨ j = B1 ∨ j = B3 ∨ j = B4 ∨ j = B5)) (w.heap.size+1) hE (heap_lt hb1) (fun h => by rcases h with h | h | h | h | h | h;exact hn1 h;(have:=hF _ h;omega);omega;omega;omega;omega) (fun j h => by rcases h with h | h | h | h | h | h;exact (hs1 j h).imp_left False.elim;exact .inl (.inl h);exact .inl (.inr (.inl h));exact .inl (.inr (.inr (.inr (.inl h))));exact .inl (.inr (.inr (.inr (.inr h))));exact .inl (.inr (.inr (.inl h))))
 have hbx:=hbq.trans hb1
 clear hbq hR
 clear hE hb0 hb1 k1 k2 k3 k4 k5 hp1 hbn1 hs1 hn1 hA hCT
 obtain ⟨y,a2,fn2,rfl,HFN,HX⟩:=tlI hp hX hbx hbn hsub hnF (by omega)
 obtain ⟨c0,c1,c2,c3,c4,c5,c6,cz,ll⟩:=sev_of hbx
 clear hX hbx hp hbn hsub hnF
 rcases HFN.out with rfl | ⟨g',caps',rfl⟩
 all_goals
  go_wp2
  clear c0 c1 c2 c3 c4 c5 c6 cz ll
  obtain ⟨hX,hB,hP⟩:=HX.out
  clear HX
  generalize (World.setCell _ (⟨w.heap.size+1,6,none⟩ : Addr) _) = Z at hX hB hP ⊢
  obtain ⟨c0,c1,c2,c3,c4,c5,c6,cz,ll⟩:=sev_of hB
  exact bodyPost_ret (by simp only [results,Tryz.results256,go_sem];simp [go_sem,c0,c1,c2,c3,c4,c5,c6]) rfl ⟨_,F',rfl,hX,hP⟩
theorem lv2_CT (p:Pl) (t n:Int) (N:Nat) (were left:Int) (tr:Tr Int) (F:Nat → Prop) (g:FuncId) (caps:Array Value) (B1 B2 B3 B4 B5:Nat) (w:World) (hA:AG were left tr F (.func (.func g) #[] caps) w) (h0:0 ≤ left) (h1:left ≤ 1024) (k1:PBox B1 p w) (k2:w.heap[B2]? = some (.cells #[.int .i64 t] 3 (0,0))) (k3:w.heap[B3]? = some (.cells #[.int .i64 were,.int .i64 left] 284 (0,0))) (k4:w.heap[B4]? = some (.cells #[.int .i64 n] 3 (0,0))) (k5:w.heap[B5]? = some (.cells #[.func (.func g) #[] caps] 294 (0,0))) (hF:Bnd F w) :
  CT kN kI (fun _ => lv2T p t n N left tr) (fun j => F j ∨ j = B1 ∨ j = B2 ∨ j = B3 ∨ j = B4 ∨ j = B5) (.func (.func 256) #[] #[.pointer (some ⟨B1,0,none⟩),.pointer (some ⟨B2,0,none⟩),.pointer (some ⟨B3,0,none⟩),.pointer (some ⟨B4,0,none⟩),.pointer (some ⟨B5,0,none⟩)]) w:=by
 refine ⟨_,_,rfl,enters_of Tryz.func256 (by kernel_rfl) rfl,fun _ w' ha => ?_⟩
 have hFw:Agr F w w':=ha.sub fun j h => .inl h
 exact (lv2_PT p t n N were left tr F g caps  B1 B2 B3 B4 B5 w' (hA.agr hFw) h0 h1 ((ha B1 (.inr (.inl rfl))).trans k1) ((ha B2 (.inr (.inr (.inl rfl)))).trans k2) ((ha B3 (.inr (.inr (.inr (.inl rfl))))).trans k3) ((ha B4 (.inr (.inr (.inr (.inr (.inl rfl)))))).trans k4) ((ha B5 (.inr (.inr (.inr (.inr (.inr rfl)))))).trans k5) (hF.agr hFw)).mono fun _ _ h => h.mono fun j h => by rcases h with h | h | h | h | h;exact .inl h;exact .inr (.inl h);exact .inr (.inr (.inr (.inl h)));exact .inr (.inr (.inr (.inr (.inl h))));exact .inr (.inr (.inr (.inr (.inr h))))
theorem lv1_PT (p:Pl) (t i n:Int) (N:Nat) (were left:Int) (tr:Tr Int) (F:Nat → Prop) (g:FuncId) (caps:Array Value) (w:World) (hA:AG were (left - 1) tr F (.func (.func g) #[] caps) w) (h0:1 ≤ left) (h1:left ≤ 1024) (hF:Bnd F w) :
  Calls Tryz.prog 252 #[plV p,.int .i64 t,.int .i64 i,.int .i64 n,.agg #[.int .i64 were,.int .i64 left],.func (.func g) #[] caps] w (RetP (PT kI (lv1T p t i n N (left - 1) tr)) F w):=by
 have ew:wrap64 (left - 1) = left - 1:=by unfold wrap64;omega
 replace hA:=Lib.hid hA
 go_enter Tryz.func252,Tryz.ntmps252
 go_upto_region 1 with (fail)
 have hE:Ext w ((((((w.alloc (.cells #[.int .i64 p.n,.int .i64 p.t,.int .i64 p.r,.int .i64 p.d,.int .i64 p.b,.int .i64 p.g] 23)).alloc (.cells #[.int .i64 t] 3)).alloc (.cells #[.int .i64 n] 3)).alloc (.cells #[.int .i64 were,.int .i64 left] 284)).alloc (.cells #[.func (.func g) #[] caps] 294)).alloc (.cells #[.int .i64 0,.int .i64 0,.int .i64 0,.int .u64 0,.int .u64 0,.nilFunc,.pointer none] 62)):=by repeat (first | exact ext_refl _ | apply ext_alloc)
 have hb0:((((((w.alloc (.cells #[.int .i64 p.n,.int .i64 p.t,.int .i64 p.r,.int .i64 p.d,.int .i64 p.b,.int .i64 p.g] 23)).alloc (.cells #[.int .i64 t] 3)).alloc (.cells #[.int .i64 n] 3)).alloc (.cells #[.int .i64 were,.int .i64 left] 284)).alloc (.cells #[.func (.func g) #[] caps] 294)).alloc (.cells #[.int .i64 0,.int .i64 0,.int .i64 0,.int .u64 0,.int .u64 0,.nilFunc,.pointer none] 62)).heap[w.heap.size]? = some (.cells #[.int .i64 p.n,.int .i64 p.t,.int .i64 p.r,.int .i64 p.d,.int .i64 p.b,.int .i64 p.g] 23):=(Below.heap_alloc _ _ _ (by simp <;> omega)).trans ((Below.heap_alloc _ _ _ (by simp <;> omega)).trans ((Below.heap_alloc _ _ _ (by simp <;> omega)).trans ((Below.heap_alloc _ _ _ (by simp <;> omega)).trans ((Below.heap_alloc _ _ _ (by simp <;> omega)).trans (heap_at _ _ _ (by simp))))))
 have hb1:((((((w.alloc (.cells #[.int .i64 p.n,.int .i64 p.t,.int .i64 p.r,.int .i64 p.d,.int .i64 p.b,.int .i64 p.g] 23)).alloc (.cells #[.int .i64 t] 3)).alloc (.cells #[.int .i64 n] 3)).alloc (.cells #[.int .i64 were,.int .i64 left] 284)).alloc (.cells #[.func (.func g) #[] caps] 294)).alloc (.cells #[.int .i64 0,.int .i64 0,.int .i64 0,.int .u64 0,.int .u64 0,.nilFunc,.pointer none] 62)).heap[w.heap.size+1]? = some (.cells #[.int .i64 t] 3):=(Below.heap_alloc _ _ _ (by simp <;> omega)).trans ((Below.heap_alloc _ _ _ (by simp <;> omega)).trans ((Below.heap_alloc _ _ _ (by simp <;> omega)).trans ((Below.heap_alloc _ _ _ (by simp <;> omega)).trans (heap_at _ _ _ (by simp)))))
 have hb2:((((((w.alloc (.cells #[.int .i64 p.n,.int .i64 p.t,.int .i64 p.r,.int .i64 p.d,.int .i64 p.b,.int .i64 p.g] 23)).alloc (.cells #[.int .i64 t] 3)).alloc (.cells #[.int .i64 n] 3)).alloc (.cells #[.int .i64 were,.int .i64 left] 284)).alloc (.cells #[.func (.func g) #[] caps] 294)).alloc (.cells #[.int .i64 0,.int .i64 0,.int .i64 0,.int .u64 0,.int .u64 0,.nilFunc,.pointer none] 62)).heap[w.heap.size+1+1]? = some (.cells #[.int .i64 n] 3):=(Below.heap_alloc _ _ _ (by simp <;> omega)).trans ((Below.heap_alloc _ _ _ (by simp <;> omega)).trans ((Below.heap_alloc _ _ _ (by simp <;> omega)).trans (heap_at _ _ _ (by simp))))
 have hb3:((((((w.alloc (.cells #[.int .i64 p.n,.int .i64 p.t,.int .i64 p.r,.int .i64 p.d,.int .i64 p.b,.int .i64 p.g] 23)).alloc (.cells #[.int .i64 t] 3)).alloc (.cells #[.int .i64 n] 3)).alloc (.cells #[.int .i64 were,.int .i64 left] 284)).alloc (.cells #[.func (.func g) #[] caps] 294)).alloc (.cells #[.int .i64 0,.int .i64 0,.int .i64 0,.int .u64 0,.int .u64 0,.nilFunc,.pointer none] 62)).heap[w.heap.size+1+1+1]? = some (.cells #[.int .i64 were,.int .i64 left] 284):=(Below.heap_alloc _ _ _ (by simp <;> omega)).trans ((Below.heap_alloc _ _ _ (by simp <;> omega)).trans (heap_at _ _ _ (by simp)))
 have hb4:((((((w.alloc (.cells #[.int .i64 p.n,.int .i64 p.t,.int .i64 p.r,.int .i64 p.d,.int .i64 p.b,.int .i64 p.g] 23)).alloc (.cells #[.int .i64 t] 3)).alloc (.cells #[.int .i64 n] 3)).alloc (.cells #[.int .i64 were,.int .i64 left] 284)).alloc (.cells #[.func (.func g) #[] caps] 294)).alloc (.cells #[.int .i64 0,.int .i64 0,.int .i64 0,.int .u64 0,.int .u64 0,.nilFunc,.pointer none] 62)).heap[w.heap.size+1+1+1+1]? = some (.cells #[.func (.func g) #[] caps] 294):=(Below.heap_alloc _ _ _ (by simp <;> omega)).trans (heap_at _ _ _ (by simp))
 have hb5:((((((w.alloc (.cells #[.int .i64 p.n,.int .i64 p.t,.int .i64 p.r,.int .i64 p.d,.int .i64 p.b,.int .i64 p.g] 23)).alloc (.cells #[.int .i64 t] 3)).alloc (.cells #[.int .i64 n] 3)).alloc (.cells #[.int .i64 were,.int .i64 left] 284)).alloc (.cells #[.func (.func g) #[] caps] 294)).alloc (.cells #[.int .i64 0,.int .i64 0,.int .i64 0,.int .u64 0,.int .u64 0,.nilFunc,.pointer none] 62)).heap[w.heap.size+1+1+1+1+1]? = some (.cells #[.int .i64 0,.int .i64 0,.int .i64 0,.int .u64 0,.int .u64 0,.nilFunc,.pointer none] 62):=heap_at _ _ _ (by simp)
 have hW:((((((w.alloc (.cells #[.int .i64 p.n,.int .i64 p.t,.int .i64 p.r,.int .i64 p.d,.int .i64 p.b,.int .i64 p.g] 23)).alloc (.cells #[.int .i64 t] 3)).alloc (.cells #[.int .i64 n] 3)).alloc (.cells #[.int .i64 were,.int .i64 left] 284)).alloc (.cells #[.func (.func g) #[] caps] 294)).alloc (.cells #[.int .i64 0,.int .i64 0,.int .i64 0,.int .u64 0,.int .u64 0,.nilFunc,.pointer none] 62)).heap.size = w.heap.size+1+1+1+1+1+1:=by simp
 generalize ((((((w.alloc (.cells #[.int .i64 p.n,.int .i64 p.t,.int .i64 p.r,.int .i64 p.d,.int .i64 p.b,.int .i64 p.g] 23)).alloc (.cells #[.int .i64 t] 3)).alloc (.cells #[.int .i64 n] 3)).alloc (.cells #[.int .i64 were,.int .i64 left] 284)).alloc (.cells #[.func (.func g) #[] caps] 294)).alloc (.cells #[.int .i64 0,.int .i64 0,.int .i64 0,.int .u64 0,.int .u64 0,.nilFunc,.pointer none] 62)) = W at hE hb0 hb1 hb2 hb3 hb4 hb5 hW ⊢
 have z0:=cell_at (o:=0) hb3 rfl
 have z1:=cell_at (o:=1) hb3 rfl
 have zz:∀ o,W.frozen? ⟨w.heap.size+1+1+1,o,none⟩ = false:=fun _ => free_at hb3
 have zl:=heap_lt hb3
 have hX:Ext w (W.setCell ⟨w.heap.size+1+1+1,1,none⟩ (.int .i64 (left - 1))):=ext_set (p:=⟨w.heap.size+1+1+1,1,none⟩) _ (by show w.heap.size ≤ w.heap.size+1+1+1;omega) hE
 have hB:=set_same (o:=1) (.int .i64 (left - 1)) hb3
 have hq0:=(set_other (w:=W) (b:=w.heap.size+1+1+1) (o:=1) (k:=w.heap.size) (.int .i64 (left - 1)) (by omega)).trans hb0
 have hq1:=(set_other (w:=W) (b:=w.heap.size+1+1+1) (o:=1) (k:=w.heap.size+1) (.int .i64 (left - 1)) (by omega)).trans hb1
 have hq2:=(set_other (w:=W) (b:=w.heap.size+1+1+1) (o:=1) (k:=w.heap.size+1+1) (.int .i64 (left - 1)) (by omega)).trans hb2
 have hq4:=(set_other (w:=W) (b:=w.heap.size+1+1+1) (o:=1) (k:=w.heap.size+1+1+1+1) (.int .i64 (left - 1)) (by omega)).trans hb4
 have hq5:=(set_other (w:=W) (b:=w.heap.size+1+1+1) (o:=1) (k:=w.heap.size+1+1+1+1+1) (.int .i64 (left - 1)) (by omega)).trans hb5
 have HQ:=Lib.hid (And.intro hX (And.intro hB (And.intro hq0 (And.intro hq1 (And.intro hq2 (And.intro hq4 hq5))))))
 clear hX hB hq0 hq1 hq2 hq4 hq5 hE hb0 hb1 hb2 hb3 hb4 hb5 hW
 go_upto_region 2 with (fail)
 clear z0 z1 zz zl
 obtain ⟨hE,hb3,hb0,hb1,hb2,hb4,hb5⟩:=HQ.out
 clear HQ
 generalize (World.setCell _ (⟨w.heap.size+1+1+1,1,none⟩ : Addr) _) = X at hE hb3 hb0 hb1 hb2 hb4 hb5 ⊢
 replace hb3:X.heap[w.heap.size+1+1+1]? = some (.cells #[.int .i64 were,.int .i64 (left - 1)] 284 (0,0)):=hb3
 have ⟨c0,c1,c2,c3,c4,c5,lt⟩:=PBox.plc hb0
 have d2_0:=cell_at (o:=0) hb1 rfl
 have e2:=cell_lt d2_0
 have d3_0:=cell_at (o:=0) hb3 rfl
 have d3_1:=cell_at (o:=1) hb3 rfl
 have e3:=cell_lt d3_0
 replace hE:=Lib.hid hE
 replace hb0:=Lib.hid hb0
 replace hb1:=Lib.hid hb1
 replace hb2:=Lib.hid hb2
 replace hb3:=Lib.hid hb3
 replace hb4:=Lib.hid hb4
 replace hb5:=Lib.hid hb5
 go_wp2_with (go_at_call 255;refine Hid.out ?_)
 refine Lib.hid ?_
 replace hE:=hE.out
 replace hb0:=hb0.out
 replace hb1:=hb1.out
 replace hb2:=hb2.out
 replace hb3:=hb3.out
 replace hb4:=hb4.out
 replace hb5:=hb5.out
 clear c0 c1 c2 c3 c4 c5 lt d2_0 e2 d3_0 d3_1 e3
 refine (fil_PT p t i (left - 1) X).mono ?_
 rintro e w1 ⟨v1,F1,rfl,hx,hp1,hbn1,hsub⟩
 have hn1:¬ F1 (w.heap.size+1+1+1+1+1):=fun h => (hsub _ h).elim (fun h => h) fun h => by have:=heap_lt hb5;omega
 have hs1:∀ j,F1 j → noF j ∨ w.heap.size ≤ j:=fun j hj => (hsub j hj).imp_right fun h => Nat.le_trans hE.size h
 replace hE:=ext_trans hE hx
 replace hb0:=(hx.block _ (heap_lt hb0)).trans hb0
 replace hb1:=(hx.block _ (heap_lt hb1)).trans hb1
 replace hb2:=(hx.block _ (heap_lt hb2)).trans hb2
 replace hb3:=(hx.block _ (heap_lt hb3)).trans hb3
 replace hb4:=(hx.block _ (heap_lt hb4)).trans hb4
 replace hb5:=(hx.block _ (heap_lt hb5)).trans hb5
 clear hx hsub
 replace hE:=Lib.hid hE
 replace hb0:=Lib.hid hb0
 replace hb1:=Lib.hid hb1
 replace hb2:=Lib.hid hb2
 replace hb3:=Lib.hid hb3
 replace hb4:=Lib.hid hb4
 replace hb5:=Lib.hid hb5
 replace hp1:=Lib.hid hp1
 replace hbn1:=Lib.hid hbn1
 replace hs1:=Lib.hid hs1
 replace hn1:=Lib.hid hn1
 go_wp2_with (go_at_call 227;refine Hid.out ?_)
 refine Lib.hid ?_
 replace hE:=hE.out
 replace hb0:=hb0.out
 replace hb1:=hb1.out
 replace hb2:=hb2.out
 replace hb3:=hb3.out
 replace hb4:=hb4.out
 replace hb5:=hb5.out
 replace hp1:=hp1.out
 replace hbn1:=hbn1.out
 replace hs1:=hs1.out
 replace hn1:=hn1.out
 have hCT:=lv2_CT p t n N were (left - 1) tr F g caps w.heap.size (w.heap.size+1) (w.heap.size+1+1+1) (w.heap.size+1+1) (w.heap.size+1+1+1+1) w1 (hA.out.agr (Agr.of_ext hE hF)) (by omega) (by omega) hb0 hb1 hb3 hb2 hb4 (hF.ext hE.size)
 refine (then_NI _ _ F1 _ v1 _ w1 hp1 hCT hbn1 (fun j h => by rcases h with h | rfl | rfl | rfl | rfl | rfl;exact Nat.lt_of_lt_of_le (hF j h) hE.size;exact heap_lt hb0;exact heap_lt hb1;exact heap_lt hb3;exact heap_lt hb2;exact heap_lt hb4)).mono ?_
 rintro e w' hR
 obtain ⟨v',F',rfl,hX,hp,hbn,hsub,hnF,hbq⟩:=hR.tail (G:=F) (w.heap.size+1+1+1+1+1) hE (heap_lt hb5) (fun h => by rcases h with h | h | h | h | h | h | h;exact hn1 h;(have:=hF _ h;omega);omega;omega;omega;omega;omega) (fun j h => by rcases h with h | h | h | h | h | h | h;exact (hs1 j h).imp_left False.elim;exact .inl (h);exact .inr (by omega);exact .inr (by omega);exact .inr (by omega);exact .inr (by omega);exact .inr (by omega))
 have hbx:=hbq.trans hb5
 clear hbq hR
 clear hE hb0 hb1 hb2 hb3 hb4 hb5 hp1 hbn1 hs1 hn1 hA hCT
 obtain ⟨y,a2,fn2,rfl,HFN,HX⟩:=tlI hp hX hbx hbn hsub hnF (by omega)
 obtain ⟨c0,c1,c2,c3,c4,c5,c6,cz,ll⟩:=sev_of hbx
 clear hX hbx hp hbn hsub hnF
 rcases HFN.out with rfl | ⟨g',caps',rfl⟩
 all_goals
  go_wp2
  clear c0 c1 c2 c3 c4 c5 c6 cz ll
  obtain ⟨hX,hB,hP⟩:=HX.out
  clear HX
  generalize (World.setCell _ (⟨w.heap.size+1+1+1+1+1,6,none⟩ : Addr) _) = Z at hX hB hP ⊢
  obtain ⟨c0,c1,c2,c3,c4,c5,c6,cz,ll⟩:=sev_of hB
  exact bodyPost_ret (by simp only [results,Tryz.results252,go_sem];simp [go_sem,c0,c1,c2,c3,c4,c5,c6]) rfl ⟨_,F',rfl,hX,hP⟩
end Go.Proofs.YthjklbonebnekaaGreat

