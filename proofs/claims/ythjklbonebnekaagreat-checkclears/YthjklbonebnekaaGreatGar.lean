/-
  What the call of Push comes to. Conditions: those of each theorem.
-/
import Derived.Test.YthjklbonebnekaaGreatGab
import Derived.Test.YthjklbonebnekaaGreatGaj
import Derived.Test.YthjklbonebnekaaGreatGam
import Derived.Test.YthjklbonebnekaaGreatGaq
set_option maxRecDepth 8000
set_option maxHeartbeats 4000000
namespace Go.Proofs.YthjklbonebnekaaGreat
open Go Go.RowKit
theorem RetP.ext {Q:(Nat → Prop) → Value → World → Prop} {F:Nat → Prop} {w:World} {e:Ending} {w':World} (h:RetP Q F w e w'):Ext w w':=by
 obtain ⟨_,_,_,h1,_⟩:=h
 exact h1
theorem push3_PT (p:Pl) (n:Int) (t:Tr Int) (B1 B2:Nat) (w:World) (hB:PBox B1 p w) (k2:w.heap[B2]? = some (.cells #[.int .i64 n] 3 (0,0))) (hN:∀ W,Calls Tryz.prog 275 #[plV p,.int .i64 n] W (RetP (PT kI t) noF W)) :
  Calls Tryz.prog 281 #[.pointer (some ⟨B1,0,none⟩),.pointer (some ⟨B2,0,none⟩)] w (RetP (PT kI t) noF w):=by
 have d2:=cell_at (o:=0) k2 rfl
 have l2:=cell_lt d2
 clear k2
 have ⟨c0,c1,c2,c3,c4,c5,lt⟩:=hB.plc
 replace hB:=Lib.hid hB
 replace hN:=Lib.hid hN
 go_enter Tryz.func281,Tryz.ntmps281
 go_wp2_with (go_at_call 275;refine Hid.out ?_)
 refine Lib.hid ?_
 have ⟨hE,hb0,hW⟩:=al1 w (.cells #[.int .i64 0,.int .i64 0,.int .i64 0,.int .u64 0,.int .u64 0,.nilFunc,.pointer none] 62)
 generalize (w.alloc (.cells #[.int .i64 0,.int .i64 0,.int .i64 0,.int .u64 0,.int .u64 0,.nilFunc,.pointer none] 62)) = W at hE hb0 hW ⊢
 refine (hN.out W).mono ?_
 rintro e w' hR
 obtain ⟨v',F',rfl,hX,hp,hbn,hsub,hnF,hbq⟩:=hR.tail (G:=noF) (w.heap.size) hE (heap_lt hb0) (fun h => h) (fun _ h => h.elim)
 have hbx:=hbq.trans hb0
 clear hbq hR
 clear hE hb0 hW c0 c1 c2 c3 c4 c5 lt hN hB d2 l2
 obtain ⟨y,a2,fn2,rfl,HFN,HX⟩:=tlI hp hX hbx hbn hsub hnF (by omega)
 obtain ⟨c0,c1,c2,c3,c4,c5,c6,cz,ll⟩:=sev_of hbx
 clear hX hbx hp hbn hsub hnF
 rcases HFN.out with rfl | ⟨g',caps',rfl⟩
 all_goals
  go_wp2
  clear c0 c1 c2 c3 c4 c5 c6 cz ll
  obtain ⟨hX,hB,hP⟩:=HX.out
  clear HX
  generalize (World.setCell _ (⟨w.heap.size,6,none⟩ : Addr) _) = Z at hX hB hP ⊢
  obtain ⟨c0,c1,c2,c3,c4,c5,c6,cz,ll⟩:=sev_of hB
  exact bodyPost_ret (by simp only [results,Tryz.results281,go_sem];simp [go_sem,c0,c1,c2,c3,c4,c5,c6]) rfl ⟨_,F',rfl,hX,hP⟩
theorem push3_AT (p:Pl) (n:Int) (t:Tr Int) (B1 B2:Nat) (w:World) (hB:PBox B1 p w) (k2:w.heap[B2]? = some (.cells #[.int .i64 n] 3 (0,0))) (hN:∀ W,Calls Tryz.prog 275 #[plV p,.int .i64 n] W (RetP (PT kI t) noF W)) :
  AT t (fun j => j = B1 ∨ j = B2) (.func (.func 281) #[] #[.pointer (some ⟨B1,0,none⟩),.pointer (some ⟨B2,0,none⟩)]) w:=
 ⟨_,_,rfl,enters_of Tryz.func281 (by kernel_rfl) rfl,fun w' ha => (push3_PT p n t B1 B2 w' ((ha B1 (.inl rfl)).trans hB) ((ha B2 (.inr rfl)).trans k2) hN).mono fun _ _ h => h.mono fun _ h => h.elim⟩
theorem push2_PT (p:Pl) (h:BitVec 64) (n:Int) (t:Tr Int) (B1 B2 B3:Nat) (w:World) (h0:0 ≤ n) (h1:n < 4611686018427387904) (hB:PBox B1 p w) (k2:w.heap[B2]? = some (.cells #[.int .u64 (U h)] 40 (0,0))) (k3:w.heap[B3]? = some (.cells #[.int .i64 n] 3 (0,0))) (hN:∀ W,Calls Tryz.prog 275 #[plV p,.int .i64 n] W (RetP (PT kI t) noF W)) :
  Calls Tryz.prog 280 #[.agg #[],.pointer (some ⟨B1,0,none⟩),.pointer (some ⟨B2,0,none⟩),.pointer (some ⟨B3,0,none⟩)] w (RetP (PT kI (swT p h (nameW n) n t)) (fun j => j = B1 ∨ j = B3) w):=by
 have l1:=heap_lt hB
 have l3:=heap_lt k3
 replace hB:=Lib.hid hB
 replace k2:=Lib.hid k2
 replace k3:=Lib.hid k3
 replace hN:=Lib.hid hN
 go_enter Tryz.func280,Tryz.ntmps280
 go_wp2
 have ⟨hE,hb0,hb1,hW⟩:=al2 w (.cells #[] 132) (.cells #[.int .i64 0,.int .i64 0,.int .i64 0,.int .u64 0,.int .u64 0,.nilFunc,.pointer none] 62)
 generalize ((w.alloc (.cells #[] 132)).alloc (.cells #[.int .i64 0,.int .i64 0,.int .i64 0,.int .u64 0,.int .u64 0,.nilFunc,.pointer none] 62)) = W at hE hb0 hb1 hW ⊢
 have hBW:=hB.out.ext hE
 have k2W:=(hE.block _ (heap_lt k2.out)).trans k2.out
 have k3W:=(hE.block _ (heap_lt k3.out)).trans k3.out
 have ⟨c0,c1,c2,c3,c4,c5,lt⟩:=hBW.plc
 have d2:=cell_at (o:=0) k2W rfl
 have d3:=cell_at (o:=0) k3W rfl
 have e2:=cell_lt d2
 have e3:=cell_lt d3
 clear hb0
 replace hE:=Lib.hid hE
 replace hb1:=Lib.hid hb1
 replace hBW:=Lib.hid hBW
 replace k2W:=Lib.hid k2W
 replace k3W:=Lib.hid k3W
 replace hW:=Lib.hid hW
 refine wp_region_mix (fun w' => ∃ s,w' = over W s) [(0,[0,1,2,4,5]),(1,[3]),(1,[6]),(2,[7])] (by kernel_rfl) (by kernel_rfl) (over_of (ext_drew (ext_refl W))) ?_
 simp only [pieces,pickL,List.map_cons,List.map_nil,List.getD_cons_zero,List.getD_cons_succ]
 refine mix_reads ?_
 repeat (go_big_quiet_step (fail))
 refine wpQuiet_nil (mix_acts ?_)
 have HX0:=Lib.hid (ext_drew (ext_refl W))
 go_wp2_with (go_at_call 210;refine (name_any n h0 h1 _).mono ?_;rintro e w1 ⟨rfl,hx⟩;have HX1:=Lib.hid (ext_trans HX0.out hx);clear hx)
 refine mixQ_mk (over_of HX1.out) (mix_acts ?_)
 go_wp2_with (go_at_call 143;refine Hid.out ?_)
 refine Lib.hid ?_
 replace hE:=hE.out
 replace hb1:=hb1.out
 replace hBW:=hBW.out
 replace k3W:=k3W.out
 replace hW:=hW.out
 replace hBW:=hBW.ext HX1.out
 replace k3W:=(HX1.out.block _ (heap_lt k3W)).trans k3W
 replace hb1:=(HX1.out.block _ (heap_lt hb1)).trans hb1
 replace hE:=ext_trans hE HX1.out
 refine (swap_PT p h (nameW n) n t (fun j => j = B1 ∨ j = B3) _ w1 (push3_AT p n t B1 B3 w1 hBW k3W hN.out) (fun j h => by rcases h with rfl | rfl;exact heap_lt hBW;exact heap_lt k3W)).mono ?_
 rintro e w' hR
 have HXZ:=Lib.hid (ext_trans HX1.out hR.ext)
 obtain ⟨v',F',rfl,hX,hp,hbn,hsub,hnF,hbq⟩:=hR.tail (G:=(fun j => j = B1 ∨ j = B3)) (w.heap.size+1) hE (heap_lt hb1) (fun h => by rcases h with h | h;omega;omega) (fun _ h => .inl h)
 have hbx:=hbq.trans hb1
 clear hbq hR
 go_wp2
 refine mixQ_mk (over_of HXZ.out) (mix_late ?_)
 clear hE hb1 hW c0 c1 c2 c3 c4 c5 lt d2 d3 e2 e3 hN hB hBW k2 k3 k2W k3W
 obtain ⟨y,a2,fn2,rfl,HFN,HX⟩:=tlI hp hX hbx hbn hsub hnF (by omega)
 obtain ⟨c0,c1,c2,c3,c4,c5,c6,cz,ll⟩:=sev_of hbx
 clear hX hbx hp hbn hsub hnF
 rcases HFN.out with rfl | ⟨g',caps',rfl⟩
 all_goals
  go_wp2
  refine lateQ_mk (fun _ => True) trivial (mix_end ?_)
  clear c0 c1 c2 c3 c4 c5 c6 cz ll
  obtain ⟨hX,hB,hP⟩:=HX.out
  clear HX
  generalize (World.setCell _ (⟨w.heap.size+1,6,none⟩ : Addr) _) = Z at hX hB hP ⊢
  obtain ⟨c0,c1,c2,c3,c4,c5,c6,cz,ll⟩:=sev_of hB
  go_wp2
  exact bodyPost_ret (by simp only [results,Tryz.results280,go_sem];simp [go_sem,c0,c1,c2,c3,c4,c5,c6]) rfl ⟨_,F',rfl,hX,hP⟩
theorem push2_CT (p:Pl) (h:BitVec 64) (n:Int) (t:Tr Int) (B1 B2 B3:Nat) (w:World) (h0:0 ≤ n) (h1:n < 4611686018427387904) (hB:PBox B1 p w) (k2:w.heap[B2]? = some (.cells #[.int .u64 (U h)] 40 (0,0))) (k3:w.heap[B3]? = some (.cells #[.int .i64 n] 3 (0,0))) (hN:∀ W,Calls Tryz.prog 275 #[plV p,.int .i64 n] W (RetP (PT kI t) noF W)) :
  CT kN kI (fun _ => swT p h (nameW n) n t) (fun j => j = B1 ∨ j = B2 ∨ j = B3) (.func (.func 280) #[] #[.pointer (some ⟨B1,0,none⟩),.pointer (some ⟨B2,0,none⟩),.pointer (some ⟨B3,0,none⟩)]) w:=
 ⟨_,_,rfl,enters_of Tryz.func280 (by kernel_rfl) rfl,fun _ w' ha => (push2_PT p h n t B1 B2 B3 w' h0 h1 ((ha B1 (.inl rfl)).trans hB) ((ha B2 (.inr (.inl rfl))).trans k2) ((ha B3 (.inr (.inr rfl))).trans k3) hN).mono fun _ _ h => h.mono fun _ h => h.elim .inl fun h => .inr (.inr h)⟩
theorem push1_PT (p:Pl) (h:BitVec 64) (n:Int) (t:Tr Int) (B1 B2:Nat) (w:World) (h0:0 ≤ n) (h1:n < 4611686018427387904) (hB:PBox B1 p w) (k2:w.heap[B2]? = some (.cells #[.int .i64 n] 3 (0,0))) (hN:∀ W,Calls Tryz.prog 275 #[plV p,.int .i64 n] W (RetP (PT kI t) noF W)) :
  Calls Tryz.prog 279 #[.int .u64 (U h),.pointer (some ⟨B1,0,none⟩),.pointer (some ⟨B2,0,none⟩)] w (RetP (PT kI (push1T p n t h)) (fun j => j = B1 ∨ j = B2) w):=by
 have l1:=heap_lt hB
 have l2:=heap_lt k2
 replace hB:=Lib.hid hB
 replace k2:=Lib.hid k2
 replace hN:=Lib.hid hN
 go_enter Tryz.func279,Tryz.ntmps279
 go_wp2
 have ⟨hE,hb0,hb1,hW⟩:=al2 w (.cells #[.int .u64 (U h)] 40) (.cells #[.int .i64 0,.int .i64 0,.int .i64 0,.int .u64 0,.int .u64 0,.nilFunc,.pointer none] 62)
 generalize ((w.alloc (.cells #[.int .u64 (U h)] 40)).alloc (.cells #[.int .i64 0,.int .i64 0,.int .i64 0,.int .u64 0,.int .u64 0,.nilFunc,.pointer none] 62)) = W at hE hb0 hb1 hW ⊢
 have hBW:=hB.out.ext hE
 have k2W:=(hE.block _ (heap_lt k2.out)).trans k2.out
 have ⟨c0,c1,c2,c3,c4,c5,lt⟩:=hBW.plc
 have d2:=cell_at (o:=0) k2W rfl
 have d3:=cell_at (o:=0) hb0 rfl
 have e2:=cell_lt d2
 have e3:=cell_lt d3
 replace hE:=Lib.hid hE
 replace hb0:=Lib.hid hb0
 replace hb1:=Lib.hid hb1
 replace hBW:=Lib.hid hBW
 replace k2W:=Lib.hid k2W
 replace hW:=Lib.hid hW
 refine wp_region_mix (fun w' => ∃ s,w' = over W s) [(0,[0,1,4,7]),(1,[2]),(1,[3]),(1,[5]),(1,[6]),(1,[8]),(2,[9])] (by kernel_rfl) (by kernel_rfl) (over_of (ext_drew (ext_refl W))) ?_
 simp only [pieces,pickL,List.map_cons,List.map_nil,List.getD_cons_zero,List.getD_cons_succ]
 refine mix_reads ?_
 repeat (go_big_quiet_step (fail))
 refine wpQuiet_nil (mix_acts ?_)
 have HX0:=Lib.hid (ext_drew (ext_refl W))
 go_wp2_with (go_at_call 94;refine (next_any p n _).mono ?_;rintro e w1 ⟨rfl,hx⟩;have HX1:=Lib.hid (ext_trans HX0.out hx);clear hx)
 refine mixQ_mk (over_of HX1.out) (mix_acts ?_)
 go_wp2_with (go_at_call 89;refine (nodeField_any _).mono ?_;rintro e w2 ⟨rfl,hx⟩;have HX2:=Lib.hid (ext_trans HX1.out hx);clear hx)
 refine mixQ_mk (over_of HX2.out) (mix_acts ?_)
 go_wp2_with (go_at_call 90;refine (getNd_any h _).mono ?_;rintro e w3 ⟨rfl,hx⟩;have HX3:=Lib.hid (ext_trans HX2.out hx);clear hx)
 refine mixQ_mk (over_of HX3.out) (mix_acts ?_)
 go_wp2_with (go_at_call 120;refine (set_PT (p.nxF n) (ndW h) _).mono ?_;rintro e w4 ⟨v1,F1,rfl,hx,hp1,hbn1,hsub1⟩;refine Hid.out ?_)
 refine Lib.hid ?_
 replace hE:=hE.out
 replace hb0:=hb0.out
 replace hb1:=hb1.out
 replace hBW:=hBW.out
 replace k2W:=k2W.out
 replace hW:=hW.out
 have hn1:¬ F1 (w.heap.size+1):=fun h => (hsub1 _ h).elim (fun h => h) fun h => by have:=heap_lt hb1;have:=HX3.out.size;omega
 have hs1:∀ j,F1 j → noF j ∨ w.heap.size ≤ j:=fun j hj => (hsub1 j hj).imp_right fun h => Nat.le_trans (Nat.le_trans hE.size HX3.out.size) h
 have HX4:=Lib.hid (ext_trans HX3.out hx)
 replace hBW:=hBW.ext HX4.out
 replace k2W:=(HX4.out.block _ (heap_lt k2W)).trans k2W
 replace hb0:=(HX4.out.block _ (heap_lt hb0)).trans hb0
 replace hb1:=(HX4.out.block _ (heap_lt hb1)).trans hb1
 replace hE:=ext_trans hE HX4.out
 clear hx hsub1
 replace hE:=Lib.hid hE
 replace hb0:=Lib.hid hb0
 replace hb1:=Lib.hid hb1
 replace hBW:=Lib.hid hBW
 replace k2W:=Lib.hid k2W
 replace hW:=Lib.hid hW
 replace hp1:=Lib.hid hp1
 replace hbn1:=Lib.hid hbn1
 replace hs1:=Lib.hid hs1
 replace hn1:=Lib.hid hn1
 go_wp2
 refine mixQ_mk (over_of HX4.out) (mix_acts ?_)
 go_wp2_with (go_at_call 227;refine Hid.out ?_)
 refine Lib.hid ?_
 replace hE:=hE.out
 replace hb0:=hb0.out
 replace hb1:=hb1.out
 replace hBW:=hBW.out
 replace k2W:=k2W.out
 replace hW:=hW.out
 replace hp1:=hp1.out
 replace hbn1:=hbn1.out
 replace hs1:=hs1.out
 replace hn1:=hn1.out
 have hCT:=push2_CT p h n t B1 w.heap.size B2 w4 h0 h1 hBW hb0 k2W hN.out
 refine (then_NI _ _ F1 _ v1 _ w4 hp1 hCT hbn1 (fun j h => by rcases h with rfl | rfl | rfl;exact heap_lt hBW;exact heap_lt hb0;exact heap_lt k2W)).mono ?_
 rintro e w' hR
 have HXZ:=Lib.hid (ext_trans HX4.out hR.ext)
 obtain ⟨v',F',rfl,hX,hp,hbn,hsub,hnF,hbq⟩:=hR.tail (G:=(fun j => j = B1 ∨ j = B2)) (w.heap.size+1) hE (heap_lt hb1) (fun h => by rcases h with h | h | h | h;exact hn1 h;omega;omega;omega) (fun j h => by rcases h with h | h | h | h;exact (hs1 j h).imp_left False.elim;exact .inl (.inl h);exact .inr (by omega);exact .inl (.inr h))
 have hbx:=hbq.trans hb1
 clear hbq hR
 go_wp2
 refine mixQ_mk (over_of HXZ.out) (mix_late ?_)
 clear hE hb0 hb1 hW c0 c1 c2 c3 c4 c5 lt d2 d3 e2 e3 hN hB hBW k2 k2W hp1 hbn1 hs1 hn1 hCT
 obtain ⟨y,a2,fn2,rfl,HFN,HX⟩:=tlI hp hX hbx hbn hsub hnF (by omega)
 obtain ⟨c0,c1,c2,c3,c4,c5,c6,cz,ll⟩:=sev_of hbx
 clear hX hbx hp hbn hsub hnF
 rcases HFN.out with rfl | ⟨g',caps',rfl⟩
 all_goals
  go_wp2
  refine lateQ_mk (fun _ => True) trivial (mix_end ?_)
  clear c0 c1 c2 c3 c4 c5 c6 cz ll
  obtain ⟨hX,hB,hP⟩:=HX.out
  clear HX
  generalize (World.setCell _ (⟨w.heap.size+1,6,none⟩ : Addr) _) = Z at hX hB hP ⊢
  obtain ⟨c0,c1,c2,c3,c4,c5,c6,cz,ll⟩:=sev_of hB
  go_wp2
  exact bodyPost_ret (by simp only [results,Tryz.results279,go_sem];simp [go_sem,c0,c1,c2,c3,c4,c5,c6]) rfl ⟨_,F',rfl,hX,hP⟩
theorem push1_CT (p:Pl) (n:Int) (t:Tr Int) (B1 B2:Nat) (w:World) (h0:0 ≤ n) (h1:n < 4611686018427387904) (hB:PBox B1 p w) (k2:w.heap[B2]? = some (.cells #[.int .i64 n] 3 (0,0))) (hN:∀ W,Calls Tryz.prog 275 #[plV p,.int .i64 n] W (RetP (PT kI t) noF W)) :
  CT kU kI (push1T p n t) (fun j => j = B1 ∨ j = B2) (.func (.func 279) #[] #[.pointer (some ⟨B1,0,none⟩),.pointer (some ⟨B2,0,none⟩)]) w:=
 ⟨_,_,rfl,enters_of Tryz.func279 (by kernel_rfl) rfl,fun h w' ha => push1_PT p h n t B1 B2 w' h0 h1 ((ha B1 (.inl rfl)).trans hB) ((ha B2 (.inr rfl)).trans k2) hN⟩
theorem pushW (p:Pl) (n:Int) (t:Tr Int) (w:World) (hq:p.nxF n ≠ -1) (hN:∀ v F B B2 W,PBox B p W → W.heap[B2]? = some (.cells #[.int .i64 n] 3 (0,0)) → PT kU (getT p.headF) F v W → Bnd F W → Calls Tryz.prog 139 #[v,.func (.func 279) #[] #[.pointer (some ⟨B,0,none⟩),.pointer (some ⟨B2,0,none⟩)]] W (RetP (PT kI t) (fun j => F j ∨ j = B ∨ j = B2) W)) :
  Calls Tryz.prog 275 #[plV p,.int .i64 n] w (RetP (PT kI t) noF w):=by
 replace hN:=Lib.hid hN
 go_enter Tryz.func275,Tryz.ntmps275
 go_wp2_with (go_at_call 94;refine Hid.out ?_)
 refine Lib.hid ?_
 have ⟨hE,hb0,hb1,hb2,hW⟩:=al3 w (.cells #[.int .i64 p.n,.int .i64 p.t,.int .i64 p.r,.int .i64 p.d,.int .i64 p.b,.int .i64 p.g] 23) (.cells #[.int .i64 n] 3) (.cells #[.int .i64 0,.int .i64 0,.int .i64 0,.int .u64 0,.int .u64 0,.nilFunc,.pointer none] 62)
 generalize (((w.alloc (.cells #[.int .i64 p.n,.int .i64 p.t,.int .i64 p.r,.int .i64 p.d,.int .i64 p.b,.int .i64 p.g] 23)).alloc (.cells #[.int .i64 n] 3)).alloc (.cells #[.int .i64 0,.int .i64 0,.int .i64 0,.int .u64 0,.int .u64 0,.nilFunc,.pointer none] 62)) = W at hE hb0 hb1 hb2 hW ⊢
 refine (next_any p n W).mono ?_
 rintro e w0 ⟨rfl,hx⟩
 replace hE:=ext_trans hE hx
 replace hb0:=(hx.block _ (heap_lt hb0)).trans hb0
 replace hb1:=(hx.block _ (heap_lt hb1)).trans hb1
 replace hb2:=(hx.block _ (heap_lt hb2)).trans hb2
 clear hx hW
 have ⟨c0,c1,c2,c3,c4,c5,lt⟩:=PBox.plc hb0
 replace hE:=Lib.hid hE
 replace hb0:=Lib.hid hb0
 replace hb1:=Lib.hid hb1
 replace hb2:=Lib.hid hb2
 go_wp2_with (go_at_call 91;refine Hid.out ?_)
 refine Lib.hid ?_
 refine (head_any p _).mono ?_
 rintro e w1 ⟨rfl,hx⟩
 replace hE:=hE.out
 replace hb0:=hb0.out
 replace hb1:=hb1.out
 replace hb2:=hb2.out
 replace hE:=ext_trans hE hx
 replace hb0:=(hx.block _ (heap_lt hb0)).trans hb0
 replace hb1:=(hx.block _ (heap_lt hb1)).trans hb1
 replace hb2:=(hx.block _ (heap_lt hb2)).trans hb2
 clear hx
 clear c0 c1 c2 c3 c4 c5 lt
 replace hE:=Lib.hid hE
 replace hb0:=Lib.hid hb0
 replace hb1:=Lib.hid hb1
 replace hb2:=Lib.hid hb2
 go_wp2_with (go_at_call 117;refine Hid.out ?_)
 refine Lib.hid ?_
 refine (get_PT p.headF w1).mono ?_
 rintro e w2 ⟨v1,F1,rfl,hx,hp1,hbn1,hsub⟩
 replace hE:=hE.out
 replace hb0:=hb0.out
 replace hb1:=hb1.out
 replace hb2:=hb2.out
 have hn1:¬ F1 (w.heap.size+1+1):=fun h => (hsub _ h).elim (fun h => h) fun h => by have:=heap_lt hb2;omega
 have hs1:∀ j,F1 j → noF j ∨ w.heap.size ≤ j:=fun j hj => (hsub j hj).imp_right fun h => Nat.le_trans hE.size h
 replace hE:=ext_trans hE hx
 replace hb0:=(hx.block _ (heap_lt hb0)).trans hb0
 replace hb1:=(hx.block _ (heap_lt hb1)).trans hb1
 replace hb2:=(hx.block _ (heap_lt hb2)).trans hb2
 clear hx hsub
 replace hE:=Lib.hid hE
 replace hb0:=Lib.hid hb0
 replace hb1:=Lib.hid hb1
 replace hb2:=Lib.hid hb2
 replace hp1:=Lib.hid hp1
 replace hbn1:=Lib.hid hbn1
 replace hs1:=Lib.hid hs1
 replace hn1:=Lib.hid hn1
 go_wp2_with (go_at_call 139;refine Hid.out ?_)
 refine Lib.hid ?_
 replace hE:=hE.out
 replace hb0:=hb0.out
 replace hb1:=hb1.out
 replace hb2:=hb2.out
 replace hp1:=hp1.out
 replace hbn1:=hbn1.out
 replace hs1:=hs1.out
 replace hn1:=hn1.out
 refine (hN.out v1 F1 w.heap.size (w.heap.size+1) w2 hb0 hb1 hp1 hbn1).mono ?_
 rintro e w' hR
 obtain ⟨v',F',rfl,hX,hp,hbn,hsub,hnF,hbq⟩:=hR.tail (G:=noF) (w.heap.size+1+1) hE (heap_lt hb2) (fun h => by rcases h with h | h | h;exact hn1 h;omega;omega) (fun j h => by rcases h with h | h | h;exact hs1 j h;exact .inr (by omega);exact .inr (by omega))
 have hbx:=hbq.trans hb2
 clear hbq hR
 clear hE hb0 hb1 hb2 hp1 hbn1 hs1 hn1 hN
 obtain ⟨y,a2,fn2,rfl,HFN,HX⟩:=tlI hp hX hbx hbn hsub hnF (by omega)
 obtain ⟨c0,c1,c2,c3,c4,c5,c6,cz,ll⟩:=sev_of hbx
 clear hX hbx hp hbn hsub hnF
 rcases HFN.out with rfl | ⟨g',caps',rfl⟩
 all_goals
  go_wp2
  clear c0 c1 c2 c3 c4 c5 c6 cz ll
  obtain ⟨hX,hB,hP⟩:=HX.out
  clear HX
  generalize (World.setCell _ (⟨w.heap.size+1+1,6,none⟩ : Addr) _) = Z at hX hB hP ⊢
  obtain ⟨c0,c1,c2,c3,c4,c5,c6,cz,ll⟩:=sev_of hB
  exact bodyPost_ret (by simp only [results,Tryz.results275,go_sem];simp [go_sem,c0,c1,c2,c3,c4,c5,c6]) rfl ⟨_,F',rfl,hX,hP⟩
theorem push_none (p:Pl) (n:Int) (w:World) (hq:p.nxF n = -1):Calls Tryz.prog 275 #[plV p,.int .i64 n] w (RetP (PT kI (.done (-1))) noF w):=by
 go_enter Tryz.func275,Tryz.ntmps275
 go_wp2_with (go_at_call 94;refine Hid.out ?_)
 refine Lib.hid ?_
 have ⟨hE,hb0,hb1,hb2,hW⟩:=al3 w (.cells #[.int .i64 p.n,.int .i64 p.t,.int .i64 p.r,.int .i64 p.d,.int .i64 p.b,.int .i64 p.g] 23) (.cells #[.int .i64 n] 3) (.cells #[.int .i64 0,.int .i64 0,.int .i64 0,.int .u64 0,.int .u64 0,.nilFunc,.pointer none] 62)
 generalize (((w.alloc (.cells #[.int .i64 p.n,.int .i64 p.t,.int .i64 p.r,.int .i64 p.d,.int .i64 p.b,.int .i64 p.g] 23)).alloc (.cells #[.int .i64 n] 3)).alloc (.cells #[.int .i64 0,.int .i64 0,.int .i64 0,.int .u64 0,.int .u64 0,.nilFunc,.pointer none] 62)) = W at hE hb0 hb1 hb2 hW ⊢
 refine (next_any p n W).mono ?_
 rintro e w0 ⟨rfl,hx⟩
 replace hE:=ext_trans hE hx
 replace hb2:=(hx.block _ (heap_lt hb2)).trans hb2
 clear hx hW hb0 hb1
 replace hE:=Lib.hid hE
 replace hb2:=Lib.hid hb2
 go_wp2_with (go_at_call 141;refine Hid.out ?_)
 refine Lib.hid ?_
 replace hE:=hE.out
 replace hb2:=hb2.out
 refine (doneI_PT (-1) w0).mono ?_
 rintro e w' hR
 obtain ⟨v',F',rfl,hX,hp,hbn,hsub,hnF,hbq⟩:=hR.tail (G:=noF) (w.heap.size+1+1) hE (heap_lt hb2) (fun h => h) (fun _ h => h.elim)
 have hbx:=hbq.trans hb2
 clear hbq hR
 clear hE hb2
 obtain ⟨y,a2,fn2,rfl,HFN,HX⟩:=tlI hp hX hbx hbn hsub hnF (by omega)
 obtain ⟨c0,c1,c2,c3,c4,c5,c6,cz,ll⟩:=sev_of hbx
 clear hX hbx hp hbn hsub hnF
 rcases HFN.out with rfl | ⟨g',caps',rfl⟩
 all_goals
  go_wp2
  clear c0 c1 c2 c3 c4 c5 c6 cz ll
  obtain ⟨hX,hB,hP⟩:=HX.out
  clear HX
  generalize (World.setCell _ (⟨w.heap.size+1+1,6,none⟩ : Addr) _) = Z at hX hB hP ⊢
  obtain ⟨c0,c1,c2,c3,c4,c5,c6,cz,ll⟩:=sev_of hB
  exact bodyPost_ret (by simp only [results,Tryz.results275,go_sem];simp [go_sem,c0,c1,c2,c3,c4,c5,c6]) rfl ⟨_,F',rfl,hX,hP⟩
theorem nxF_in {p:Pl} {n:Int} (h:p.nxF n ≠ -1):p.ok ∧ 0 ≤ n ∧ n < p.n:=by
 by_cases hc:p.ok ∧ 0 ≤ n ∧ n < p.n
 ·exact hc
 ·exact absurd (by unfold Pl.nxF;rw [if_neg hc]) h
theorem push_PT (p:Pl) (n:Int):∀ (N:Nat) (w:World),Calls Tryz.prog 275 #[plV p,.int .i64 n] w (RetP (PT kI (pushT p n N)) noF w)
 | 0,w => by
  unfold pushT
  split
  ·rename_i hq
   exact push_none p n w hq
  ·rename_i hq
   exact pushW p n _ w hq fun v F B B2 W hB h2 hp hb => (thenM_UI F v _ _ W hp.more).mono fun _ _ h => h.mono fun _ h => h.elim
 | N+1,w => by
  unfold pushT
  split
  ·rename_i hq
   exact push_none p n w hq
  ·rename_i hq
   obtain ⟨h1,h2,h3⟩:=nxF_in hq
   have h4:n < 4611686018427387904:=by unfold Pl.ok at h1;omega
   exact pushW p n _ w hq fun v F B B2 W hB hB2 hp hb => then_UI _ _ F _ v _ W hp (push1_CT p n (pushT p n N) B B2 W h2 h4 hB hB2 fun W => push_PT p n N W) hb (fun j h => by rcases h with rfl | rfl;exact heap_lt hB;exact heap_lt hB2)
theorem hwordOf_any (n:Int) (h0 : -1 ≤ n) (h1:n < 4611686018427387904) (w:World):Calls Tryz.prog 237 #[.int .i64 n] w (Ret (.int .u64 (U (nameW n))) w):=by
 rw [U_nameH h0 h1]
 have e:IntKind.u64.wrap (IntKind.u64.wrap n+1) = n+1:=by
  show (n % 18446744073709551616+1) % 18446744073709551616 = n+1
  omega
 go_enter Tryz.func237,Tryz.ntmps237
 go_wp2
 go_ret
 exact Ret.int (by first | exact e | rfl | omega | (simp;omega)) (by repeat (first | exact ext_refl _ | apply ext_alloc))
theorem hnames_any (x:BitVec 64) (n:Int) (h1:n < 4611686018427387904) (b:Bool) (hb:Hid (nmB x n = b)) (w:World):Calls Tryz.prog 268 #[.int .u64 (U x),.int .i64 n] w (Ret (.bool b) w):=by
 by_cases h0:0 ≤ n
 ·have hw:(U x == U (nameW n)) = b:=by
   rw [← hb.out]
   unfold nmB
   by_cases h:x = nameW n
   ·simp [h,h0]
   ·have:U x ≠ U (nameW n):=fun e => h (U_inj e)
    rw [beq_eq_false_iff_ne.2 this,beq_eq_false_iff_ne.2 h]
    simp
  clear hb
  go_enter Tryz.func268,Tryz.ntmps268
  go_wp2_with (go_at_call 237;refine (hwordOf_any n (by omega) h1 _).mono ?_;rintro e w1 ⟨rfl,hx⟩;have HX:=Lib.hid hx;clear hx)
  go_ret
  exact Ret.bool (by first | exact hw | rfl) HX.out
 ·have hw:b = false:=by
   rw [← hb.out]
   unfold nmB
   simp [h0]
  subst hw
  clear hb
  go_enter Tryz.func268,Tryz.ntmps268
  go_wp2
  go_ret
  exact Ret.mk (by repeat (first | exact ext_refl _ | apply ext_alloc))
theorem hput_PT (p:Pl) (t s:Int) (x:BitVec 64) (w:World):Calls Tryz.prog 236 #[plV p,.int .i64 t,.int .i64 s,.int .u64 (U x)] w (RetP (PT kN (setT (p.hazF t s) x)) noF w):=by
 go_enter Tryz.func236,Tryz.ntmps236
 go_wp2_with (go_at_call 54;refine Hid.out ?_)
 refine Lib.hid ?_
 have ⟨hE,hb0,hb1,hW⟩:=al2 w (.cells #[.int .i64 p.n,.int .i64 p.t,.int .i64 p.r,.int .i64 p.d,.int .i64 p.b,.int .i64 p.g] 23) (.cells #[.int .i64 0,.int .i64 0,.int .u64 0,.int .u64 0,.nilFunc,.pointer none] 137)
 generalize ((w.alloc (.cells #[.int .i64 p.n,.int .i64 p.t,.int .i64 p.r,.int .i64 p.d,.int .i64 p.b,.int .i64 p.g] 23)).alloc (.cells #[.int .i64 0,.int .i64 0,.int .u64 0,.int .u64 0,.nilFunc,.pointer none] 137)) = W at hE hb0 hb1 hW ⊢
 refine (hazard_any p t s W).mono ?_
 rintro e w1 ⟨rfl,hx⟩
 replace hE:=ext_trans hE hx
 replace hb1:=(hx.block _ (heap_lt hb1)).trans hb1
 clear hx hW hb0
 replace hE:=Lib.hid hE
 replace hb1:=Lib.hid hb1
 go_wp2_with (go_at_call 120;refine Hid.out ?_)
 refine Lib.hid ?_
 replace hE:=hE.out
 replace hb1:=hb1.out
 refine (set_PT (p.hazF t s) x w1).mono ?_
 rintro e w' hR
 obtain ⟨v',F',rfl,hX,hp,hbn,hsub,hnF,hbq⟩:=hR.tail (G:=noF) (w.heap.size+1) hE (heap_lt hb1) (fun h => h) (fun _ h => h.elim)
 have hbx:=hbq.trans hb1
 clear hbq hR
 clear hE hb1
 obtain ⟨a2,fn2,rfl,HFN,HX⟩:=tlN hp hX hbx hbn hsub hnF (by omega)
 obtain ⟨c0,c1,c2,c3,c4,c5,cz,ll⟩:=six_of hbx
 clear hX hbx hp hbn hsub hnF
 rcases HFN.out with rfl | ⟨g',caps',rfl⟩
 all_goals
  go_wp2
  clear c0 c1 c2 c3 c4 c5 cz ll
  obtain ⟨hX,hB,hP⟩:=HX.out
  clear HX
  generalize (World.setCell _ (⟨w.heap.size+1,5,none⟩ : Addr) _) = Z at hX hB hP ⊢
  obtain ⟨c0,c1,c2,c3,c4,c5,cz,ll⟩:=six_of hB
  exact bodyPost_ret (by simp only [results,Tryz.results236,go_sem];simp [go_sem,c0,c1,c2,c3,c4,c5]) rfl ⟨_,F',rfl,hX,hP⟩
theorem hset_PT (p:Pl) (t s n:Int) (h0 : -1 ≤ n) (h1:n < 4611686018427387904) (w:World):Calls Tryz.prog 189 #[plV p,.int .i64 t,.int .i64 s,.int .i64 n] w (RetP (PT kN (setT (p.hazF t s) (nameW n))) noF w):=by
 go_enter Tryz.func189,Tryz.ntmps189
 go_wp2
 have ⟨hE,hb0,hb1,hW⟩:=al2 w (.cells #[.int .i64 p.n,.int .i64 p.t,.int .i64 p.r,.int .i64 p.d,.int .i64 p.b,.int .i64 p.g] 23) (.cells #[.int .i64 0,.int .i64 0,.int .u64 0,.int .u64 0,.nilFunc,.pointer none] 137)
 generalize ((w.alloc (.cells #[.int .i64 p.n,.int .i64 p.t,.int .i64 p.r,.int .i64 p.d,.int .i64 p.b,.int .i64 p.g] 23)).alloc (.cells #[.int .i64 0,.int .i64 0,.int .u64 0,.int .u64 0,.nilFunc,.pointer none] 137)) = W at hE hb0 hb1 hW ⊢
 have ⟨c0,c1,c2,c3,c4,c5,lt⟩:=PBox.plc hb0
 replace hE:=Lib.hid hE
 replace hb0:=Lib.hid hb0
 replace hb1:=Lib.hid hb1
 replace hW:=Lib.hid hW
 refine wp_region_mix (fun w' => ∃ s,w' = over W s) [(0,[0,1,2,3]),(1,[4]),(1,[5]),(2,[6])] (by kernel_rfl) (by kernel_rfl) (over_of (ext_drew (ext_refl W))) ?_
 simp only [pieces,pickL,List.map_cons,List.map_nil,List.getD_cons_zero,List.getD_cons_succ]
 refine mix_reads ?_
 repeat (go_big_quiet_step (fail))
 refine wpQuiet_nil (mix_acts ?_)
 have HX0:=Lib.hid (ext_drew (ext_refl W))
 go_wp2_with (go_at_call 237;refine (hwordOf_any n h0 h1 _).mono ?_;rintro e w1 ⟨rfl,hx⟩;have HX1:=Lib.hid (ext_trans HX0.out hx);clear hx)
 refine mixQ_mk (over_of HX1.out) (mix_acts ?_)
 go_wp2_with (go_at_call 236;refine Hid.out ?_)
 refine Lib.hid ?_
 replace hE:=hE.out
 replace hb0:=hb0.out
 replace hb1:=hb1.out
 replace hW:=hW.out
 have hE1:=ext_trans hE HX1.out
 have hb11:=(HX1.out.block _ (heap_lt hb1)).trans hb1
 refine (hput_PT p t s (nameW n) _).mono ?_
 rintro e w' hR
 have HXZ:=Lib.hid (ext_trans HX1.out hR.ext)
 obtain ⟨v',F',rfl,hX,hp,hbn,hsub,hnF,hbq⟩:=hR.tail (G:=noF) (w.heap.size+1) hE1 (heap_lt hb11) (fun h => h) (fun _ h => h.elim)
 have hbx:=hbq.trans hb11
 clear hbq hR
 go_wp2
 refine mixQ_mk (over_of HXZ.out) (mix_late ?_)
 clear hE hb0 hb1 hW c0 c1 c2 c3 c4 c5 lt hE1 hb11
 obtain ⟨a2,fn2,rfl,HFN,HX⟩:=tlN hp hX hbx hbn hsub hnF (by omega)
 obtain ⟨c0,c1,c2,c3,c4,c5,cz,ll⟩:=six_of hbx
 clear hX hbx hp hbn hsub hnF
 rcases HFN.out with rfl | ⟨g',caps',rfl⟩
 all_goals
  go_wp2
  refine lateQ_mk (fun _ => True) trivial (mix_end ?_)
  clear c0 c1 c2 c3 c4 c5 cz ll
  obtain ⟨hX,hB,hP⟩:=HX.out
  clear HX
  generalize (World.setCell _ (⟨w.heap.size+1,5,none⟩ : Addr) _) = Z at hX hB hP ⊢
  obtain ⟨c0,c1,c2,c3,c4,c5,cz,ll⟩:=six_of hB
  go_wp2
  exact bodyPost_ret (by simp only [results,Tryz.results189,go_sem];simp [go_sem,c0,c1,c2,c3,c4,c5]) rfl ⟨_,F',rfl,hX,hP⟩
section
variable {P:Program} {ops:Array Oper} {Q:Exit → Act → World → Prop} {S:World → Prop}
def Ways (P:Program) (ops:Array Oper) (Q:Exit → Act → World → Prop) (S:World → Prop) (ex:List Nat) (listed:Array Bool) (f:Nat) (a:Act) (w:World):Prop:=
 Closed ops listed → S w → (ex = [] → wpAnyX P ops Q [] f S listed a w) ∧
  (0 < f → ∀ j ∈ Region.ready .any ops listed,j ∉ ex → wpOp P ops Q j (fun a' w' => S w' ∧ wpAnyX P ops Q [] (f - 1) S (listed.setIfInBounds j true) a' w') a w)
theorem op_of_list {K:Act → World → Prop} {K':Act → World → Prop} {i:Nat} {o:Oper} {a:Act} {w:World} (ho:ops[i]? = some o) (hk:∀ a w,S w → K a w → K' a w)
  (h:wpList P ops (mixQ Q S K) (pickL ops.toList [i]) a w):wpOp P ops Q i K' a w:=by
 rw [pick_at ho] at h
 simp only [pickL,List.map_nil,wpList] at h
 unfold wpOp
 simp only [ho]
 split
 ·rename_i hw
  rw [if_pos hw] at h
  rcases h with h | ⟨h5,h6⟩
  ·exact .inl (op_mix (Q':=mixQ Q S K) (fun e a w he hh => by cases e <;> first | exact hh | exact absurd rfl he) (fun a w hh => hk a w hh.1 hh.2) h)
  ·obtain ⟨a6,w6,h7⟩:=h6
   exact .inr ⟨h5,a6,w6,h7⟩
 ·rename_i hw
  rw [if_neg hw] at h
  exact hk _ _ h.1 h.2
theorem ways_end {listed:Array Bool} {f:Nat} {a:Act} {w:World} (hB:(Region.ready .any ops listed).isEmpty = true) (h:Q .normal a w):Ways P ops (calm Q) S [] listed f a w:=fun _ _ => by
 have hr:=List.isEmpty_iff.1 hB
 exact ⟨fun _ => x_done (Q:=calm Q) hr h _,fun _ j hj => by rw [hr] at hj;cases hj⟩
theorem ways_reads {listed:Array Bool} {f:Nat} {a:Act} {w:World} (is:List Nat) (hB:(Region.noSelect ops && (takeB ops [] is listed).isSome && decide (is.length ≤ f)) = true)
  (h:wpQuiet P ops S (fun a' => Ways P ops (calm Q) S [] ((takeB ops [] is listed).getD listed) (f - is.length) a' w) (pickL ops.toList is) a):Ways P ops (calm Q) S [] listed f a w:=fun hcl hS => by
 simp only [Bool.and_eq_true,decide_eq_true_eq] at hB
 obtain ⟨⟨hs,h1⟩,h2⟩:=hB
 obtain ⟨listed',ht⟩:=Option.isSome_iff_exists.1 h1
 have main:wpAnyX P ops (calm Q) [] f S listed a w:=by
  rw [show f = is.length+(f - is.length) by omega]
  refine x_take hs (fun _ _ _ _ _ h => h) hS _ listed' (fun a' hcl' ha => ?_) is listed a hcl ht h
  have:=(ha:Ways P ops (calm Q) S [] ((takeB ops [] is listed).getD listed) (f - is.length) a' w)
  rw [ht] at this
  exact (this hcl' hS).1 rfl
 refine ⟨fun _ => main,fun h0 j hj _ => ?_⟩
 obtain ⟨f',rfl⟩ : ∃ f',f = f' + 1:=⟨f - 1,by omega⟩
 have:=main.2 j hj
 simp only [List.contains_nil,Bool.false_eq_true,if_false] at this
 exact this
theorem ways_act {listed:Array Bool} {f:Nat} {a:Act} {w:World} {ex:List Nat} (i:Nat) (hB:(decide ((Region.ready .any ops listed).filter (fun j => !ex.contains j) = [i]) && (ops[i]?).isSome && decide (0 < f)) = true)
  (h:wpList P ops (mixQ (calm Q) S (Ways P ops (calm Q) S [] (listed.setIfInBounds i true) (f - 1))) (pickL ops.toList [i]) a w):Ways P ops (calm Q) S ex listed f a w:=fun hcl hS => by
 simp only [Bool.and_eq_true,decide_eq_true_eq] at hB
 obtain ⟨⟨h1,h2⟩,h3⟩:=hB
 obtain ⟨o,ho⟩:=Option.isSome_iff_exists.1 h2
 obtain ⟨f',rfl⟩ : ∃ f',f = f' + 1:=⟨f - 1,by omega⟩
 have hi:i ∈ Region.ready .any ops listed:=by
  have:i ∈ (Region.ready .any ops listed).filter (fun j => !ex.contains j):=by rw [h1];simp
  exact (List.mem_filter.1 this).1
 have main:∀ j ∈ Region.ready .any ops listed,j ∉ ex → wpOp P ops (calm Q) j (fun a' w' => S w' ∧ wpAnyX P ops (calm Q) [] f' S (listed.setIfInBounds j true) a' w') a w:=fun j hj hne => by
  have:j ∈ (Region.ready .any ops listed).filter (fun j => !ex.contains j):=List.mem_filter.2 ⟨hj,by simpa using hne⟩
  rw [h1] at this
  obtain rfl:j = i:=by simpa using this
  exact op_of_list ho (fun a' w' hS' hk => ⟨hS',(hk (hcl.set hi) hS').1 rfl⟩) h
 refine ⟨fun he => ⟨fun h0 => (by rw [h0] at hi;cases hi),fun j hj => ?_⟩,fun _ => main⟩
 simp only [List.contains_nil,Bool.false_eq_true,if_false]
 exact main j hj (by rw [he];simp)
theorem ways_fork {listed:Array Bool} {f:Nat} {a:Act} {w:World} {ex:List Nat} (i:Nat) (hB:((Region.ready .any ops listed).contains i && (ops[i]?).isSome && decide (0 < f)) = true)
  (h:wpList P ops (mixQ (calm Q) S (Ways P ops (calm Q) S [] (listed.setIfInBounds i true) (f - 1))) (pickL ops.toList [i]) a w) (h':Ways P ops (calm Q) S (i :: ex) listed f a w):Ways P ops (calm Q) S ex listed f a w:=fun hcl hS => by
 simp only [Bool.and_eq_true,decide_eq_true_eq] at hB
 obtain ⟨⟨h1,h2⟩,h3⟩:=hB
 obtain ⟨o,ho⟩:=Option.isSome_iff_exists.1 h2
 have hi:i ∈ Region.ready .any ops listed:=by simpa using h1
 obtain ⟨f',rfl⟩ : ∃ f',f = f' + 1:=⟨f - 1,by omega⟩
 have hq:=h' hcl hS
 have main:∀ j ∈ Region.ready .any ops listed,j ∉ ex → wpOp P ops (calm Q) j (fun a' w' => S w' ∧ wpAnyX P ops (calm Q) [] f' S (listed.setIfInBounds j true) a' w') a w:=fun j hj hne => by
  by_cases e:j = i
  ·subst e
   exact op_of_list ho (fun a' w' hS' hk => ⟨hS',(hk (hcl.set hi) hS').1 rfl⟩) h
  ·exact hq.2 (by omega) j hj (by simp [e,hne])
 refine ⟨fun he => ⟨fun h0 => (by rw [h0] at hi;cases hi),fun j hj => ?_⟩,fun _ => main⟩
 simp only [List.contains_nil,Bool.false_eq_true,if_false]
 exact main j hj (by rw [he];simp)
theorem wp_region_ways {id:Nat} {a:Act} {w:World} {l:List Oper} (S:World → Prop) (hm:P.follows .mixedOrders = true)
  (hS:S w.drew) (h:Ways P l.toArray (calm Q) S [] (Array.replicate l.toArray.size false) l.toArray.size a w.drew):(Code.region id l.toArray true).wp P Q a w:=
 Code.wp_mono calm_out (wp_region_any hm (any_of_x (late:=[]) _ S _ _ _ ((h (Closed.none _) hS).1 rfl)))
end
end Go.Proofs.YthjklbonebnekaaGreat

