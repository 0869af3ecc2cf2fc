/-
  What the calls of scanFrom and Scan come to. Conditions: those of each theorem.
-/
import Derived.Test.YthjklbonebnekaaGreatGbc
set_option maxRecDepth 8000
set_option maxHeartbeats 4000000
namespace Go.Proofs.YthjklbonebnekaaGreat
open Go Go.RowKit
theorem sc3_PT (p:Pl) (t i n:Int) (N:Nat) (were left:Int) (go:Int → Int → Tr Int) (b:Bool) (F:Nat → Prop) (g:FuncId) (caps:Array Value) (B1 B2 B3 B4 B5 B6:Nat) (w:World) (hA:AG were left (go were left) F (.func (.func g) #[] caps) w) (hA2:AG were (left - 1) (go were (left - 1)) F (.func (.func g) #[] caps) w) (h0:1 ≤ left) (h1:left ≤ 1024) (k1:w.heap[B1]? = some (.cells #[.func (.func g) #[] caps] 294 (0,0))) (k2:w.heap[B2]? = some (.cells #[.int .i64 were,.int .i64 left] 284 (0,0))) (k3:PBox B3 p w) (k4:w.heap[B4]? = some (.cells #[.int .i64 t] 3 (0,0))) (k5:w.heap[B5]? = some (.cells #[.int .i64 i] 3 (0,0))) (k6:w.heap[B6]? = some (.cells #[.int .i64 n] 3 (0,0))) (hF:Bnd F w) :
  Calls Tryz.prog 251 #[.bool b,.pointer (some ⟨B1,0,none⟩),.pointer (some ⟨B2,0,none⟩),.pointer (some ⟨B3,0,none⟩),.pointer (some ⟨B4,0,none⟩),.pointer (some ⟨B5,0,none⟩),.pointer (some ⟨B6,0,none⟩)] w (RetP (PT kI (sc3T p t i n N were left go b)) F w):=by
 cases b with
 | true =>
  show Calls Tryz.prog 251 _ w (RetP (PT kI (go were left)) F w)
  obtain ⟨g',caps',e,hg,hc⟩:=hA
  cases e
  have HN:=Lib.hid hc
  have d1:=cell_at (o:=0) k1 rfl
  have d2:=cell_at (o:=0) k2 rfl
  have d3:=cell_at (o:=1) k2 rfl
  have l1:=cell_lt d1
  have l2:=cell_lt d2
  unfold Enters at hg
  clear hc k1 k2 k3 k4 k5 k6 hA2
  have hnF0:¬ F w.heap.size:=fun h => by have:=hF _ h;omega
  replace hnF0:=Lib.hid hnF0
  go_enter Tryz.func251,Tryz.ntmps251
  go_wp2_with (refine (HN.out _ (Agr.of_ext (by repeat (first | exact ext_refl _ | apply ext_alloc)) hF)).mono ?_;rintro e w' hR;obtain ⟨v',F',rfl,hX,hp,hbn,hsub,hnF,hbq⟩:=hR.tail (G:=F) w.heap.size (ext_alloc _ (ext_refl w)) (by simp) hnF0.out (fun j h => .inl h);refine Hid.out ?_)
  refine Lib.hid ?_
  have hbx:=hbq.trans (heap_at w _ _ rfl)
  clear hbq hR HN
  obtain ⟨y,a2,fn2,rfl,HFN,HX⟩:=tlI hp hX hbx hbn hsub hnF (by omega)
  obtain ⟨c0,c1,c2,c3,c4,c5,c6,cz,ll⟩:=sev_of hbx
  clear hX hbx hp hbn hsub hnF
  rcases HFN.out with rfl | ⟨g',caps',rfl⟩
  all_goals
   go_wp2
   clear c0 c1 c2 c3 c4 c5 c6 cz ll
   obtain ⟨hX,hB,hP⟩:=HX.out
   clear HX
   generalize (World.setCell _ (⟨w.heap.size,6,none⟩ : Addr) _) = Z at hX hB hP ⊢
   obtain ⟨c0,c1,c2,c3,c4,c5,c6,cz,ll⟩:=sev_of hB
   exact bodyPost_ret (by simp only [results,Tryz.results251,go_sem];simp [go_sem,c0,c1,c2,c3,c4,c5,c6]) rfl ⟨_,F',rfl,hX,hP⟩
 | false =>
  show Calls Tryz.prog 251 _ w (RetP (PT kI (lv1T p t i n N (left - 1) (go were (left - 1)))) F w)
  clear hA
  have qk1:=heap_lt k1
  have d1_0:=cell_at (o:=0) k1 rfl
  have e1:=cell_lt d1_0
  have qk2:=heap_lt k2
  have d2_0:=cell_at (o:=0) k2 rfl
  have d2_1:=cell_at (o:=1) k2 rfl
  have e2:=cell_lt d2_0
  have qk3:=heap_lt k3
  have ⟨c0,c1,c2,c3,c4,c5,lt⟩:=PBox.plc k3
  have qk4:=heap_lt k4
  have d4_0:=cell_at (o:=0) k4 rfl
  have e4:=cell_lt d4_0
  have qk5:=heap_lt k5
  have d5_0:=cell_at (o:=0) k5 rfl
  have e5:=cell_lt d5_0
  have qk6:=heap_lt k6
  have d6_0:=cell_at (o:=0) k6 rfl
  have e6:=cell_lt d6_0
  replace k1:=Lib.hid k1
  replace k2:=Lib.hid k2
  replace k3:=Lib.hid k3
  replace k4:=Lib.hid k4
  replace k5:=Lib.hid k5
  replace k6:=Lib.hid k6
  replace hA2:=Lib.hid hA2
  go_enter Tryz.func251,Tryz.ntmps251
  go_wp2_with (go_at_call 252;refine Hid.out ?_)
  refine Lib.hid ?_
  have ⟨hE,hb0,hW⟩:=al1 w (.cells #[.int .i64 0,.int .i64 0,.int .i64 0,.int .u64 0,.int .u64 0,.nilFunc,.pointer none] 62)
  generalize (w.alloc (.cells #[.int .i64 0,.int .i64 0,.int .i64 0,.int .u64 0,.int .u64 0,.nilFunc,.pointer none] 62)) = W at hE hb0 hW ⊢
  replace k1:=(hE.block _ (heap_lt k1.out)).trans k1.out
  replace k2:=(hE.block _ (heap_lt k2.out)).trans k2.out
  replace k3:=(hE.block _ (heap_lt k3.out)).trans k3.out
  replace k4:=(hE.block _ (heap_lt k4.out)).trans k4.out
  replace k5:=(hE.block _ (heap_lt k5.out)).trans k5.out
  replace k6:=(hE.block _ (heap_lt k6.out)).trans k6.out
  clear hW
  clear d1_0 e1 d2_0 d2_1 e2 c0 c1 c2 c3 c4 c5 lt d4_0 e4 d5_0 e5 d6_0 e6
  refine (lv1_PT p t i n N were left (go were (left - 1)) F g caps W (hA2.out.agr (Agr.of_ext hE hF)) h0 h1 (hF.ext hE.size)).mono ?_
  rintro e w' hR
  obtain ⟨v',F',rfl,hX,hp,hbn,hsub,hnF,hbq⟩:=hR.tail (G:=F) (w.heap.size) hE (heap_lt hb0) (fun h => by (have:=hF _ h;omega)) (fun j h => by exact .inl (h))
  have hbx:=hbq.trans hb0
  clear hbq hR
  clear hE hb0 k1 k2 k3 k4 k5 k6 hA2
  obtain ⟨y,a2,fn2,rfl,HFN,HX⟩:=tlI hp hX hbx hbn hsub hnF (by omega)
  obtain ⟨c0,c1,c2,c3,c4,c5,c6,cz,ll⟩:=sev_of hbx
  clear hX hbx hp hbn hsub hnF
  rcases HFN.out with rfl | ⟨g',caps',rfl⟩
  all_goals
   go_wp2
   clear c0 c1 c2 c3 c4 c5 c6 cz ll
   obtain ⟨hX,hB,hP⟩:=HX.out
   clear HX
   generalize (World.setCell _ (⟨w.heap.size,6,none⟩ : Addr) _) = Z at hX hB hP ⊢
   obtain ⟨c0,c1,c2,c3,c4,c5,c6,cz,ll⟩:=sev_of hB
   exact bodyPost_ret (by simp only [results,Tryz.results251,go_sem];simp [go_sem,c0,c1,c2,c3,c4,c5,c6]) rfl ⟨_,F',rfl,hX,hP⟩
theorem sc3_CT (p:Pl) (t i n:Int) (N:Nat) (were left:Int) (go:Int → Int → Tr Int) (F:Nat → Prop) (g:FuncId) (caps:Array Value) (B1 B2 B3 B4 B5 B6:Nat) (w:World) (hA:AG were left (go were left) F (.func (.func g) #[] caps) w) (hA2:AG were (left - 1) (go were (left - 1)) F (.func (.func g) #[] caps) w) (h0:1 ≤ left) (h1:left ≤ 1024) (k1:w.heap[B1]? = some (.cells #[.func (.func g) #[] caps] 294 (0,0))) (k2:w.heap[B2]? = some (.cells #[.int .i64 were,.int .i64 left] 284 (0,0))) (k3:PBox B3 p w) (k4:w.heap[B4]? = some (.cells #[.int .i64 t] 3 (0,0))) (k5:w.heap[B5]? = some (.cells #[.int .i64 i] 3 (0,0))) (k6:w.heap[B6]? = some (.cells #[.int .i64 n] 3 (0,0))) (hF:Bnd F w) :
  CT kB kI (fun b => sc3T p t i n N were left go b) (fun j => F j ∨ j = B1 ∨ j = B2 ∨ j = B3 ∨ j = B4 ∨ j = B5 ∨ j = B6) (.func (.func 251) #[] #[.pointer (some ⟨B1,0,none⟩),.pointer (some ⟨B2,0,none⟩),.pointer (some ⟨B3,0,none⟩),.pointer (some ⟨B4,0,none⟩),.pointer (some ⟨B5,0,none⟩),.pointer (some ⟨B6,0,none⟩)]) w:=by
 refine ⟨_,_,rfl,enters_of Tryz.func251 (by kernel_rfl) rfl,fun b w' ha => ?_⟩
 have hFw:Agr F w w':=ha.sub fun j h => .inl h
 exact (sc3_PT p t i n N were left go b F g caps B1 B2 B3 B4 B5 B6 w' (hA.agr hFw) (hA2.agr hFw) h0 h1 ((ha B1 (.inr (.inl rfl))).trans k1) ((ha B2 (.inr (.inr (.inl rfl)))).trans k2) ((ha B3 (.inr (.inr (.inr (.inl rfl))))).trans k3) ((ha B4 (.inr (.inr (.inr (.inr (.inl rfl)))))).trans k4) ((ha B5 (.inr (.inr (.inr (.inr (.inr (.inl rfl))))))).trans k5) ((ha B6 (.inr (.inr (.inr (.inr (.inr (.inr rfl))))))).trans k6) (hF.agr hFw)).mono fun _ _ h => h.mono fun j h => .inl h
theorem sc2_PT (p:Pl) (t i:Int) (N:Nat) (were left:Int) (go:Int → Int → Tr Int) (x:BitVec 64) (F:Nat → Prop) (g:FuncId) (caps:Array Value) (B1 B2 B3 B4 B5:Nat) (w:World) (hA:AG were left (go were left) F (.func (.func g) #[] caps) w) (hA2:AG were (left - 1) (go were (left - 1)) F (.func (.func g) #[] caps) w) (h0:1 ≤ left) (h1:left ≤ 1024) (hp:p.ok) (k1:PBox B1 p w) (k2:w.heap[B2]? = some (.cells #[.func (.func g) #[] caps] 294 (0,0))) (k3:w.heap[B3]? = some (.cells #[.int .i64 were,.int .i64 left] 284 (0,0))) (k4:w.heap[B4]? = some (.cells #[.int .i64 t] 3 (0,0))) (k5:w.heap[B5]? = some (.cells #[.int .i64 i] 3 (0,0))) (hF:Bnd F w) :
  Calls Tryz.prog 249 #[.int .u64 (U x),.pointer (some ⟨B1,0,none⟩),.pointer (some ⟨B2,0,none⟩),.pointer (some ⟨B3,0,none⟩),.pointer (some ⟨B4,0,none⟩),.pointer (some ⟨B5,0,none⟩)] w (RetP (PT kI (sc2T p t i N were left go x)) (fun j => F j ∨ j = B1 ∨ j = B2 ∨ j = B3 ∨ j = B4 ∨ j = B5) w):=by
 obtain ⟨n,hn⟩ : ∃ n,Hid (nmdR p x = n):=⟨_,Lib.hid rfl⟩
 have hnr:=nmdR_in p x
 rw [hn.out] at hnr
 have eT:sc2T p t i N were left go x = (stysT p n).bind (sc3T p t i n N were left go):=by unfold sc2T;rw [hn.out]
 rw [eT]
 clear eT
 have qk1:=heap_lt k1
 have ⟨c0,c1,c2,c3,c4,c5,lt⟩:=PBox.plc k1
 have qk2:=heap_lt k2
 have d2_0:=cell_at (o:=0) k2 rfl
 have e2:=cell_lt d2_0
 have qk3:=heap_lt k3
 have d3_0:=cell_at (o:=0) k3 rfl
 have d3_1:=cell_at (o:=1) k3 rfl
 have e3:=cell_lt d3_0
 have qk4:=heap_lt k4
 have d4_0:=cell_at (o:=0) k4 rfl
 have e4:=cell_lt d4_0
 have qk5:=heap_lt k5
 have d5_0:=cell_at (o:=0) k5 rfl
 have e5:=cell_lt d5_0
 replace k1:=Lib.hid k1
 replace k2:=Lib.hid k2
 replace k3:=Lib.hid k3
 replace k4:=Lib.hid k4
 replace k5:=Lib.hid k5
 replace hA:=Lib.hid hA
 replace hA2:=Lib.hid hA2
 replace hnr:=Lib.hid hnr
 go_enter Tryz.func249,Tryz.ntmps249
 go_wp2_with (go_at_call 97;refine Hid.out ?_)
 refine Lib.hid ?_
 have ⟨hE,hb0,hW⟩:=al1 w (.cells #[.int .i64 0,.int .i64 0,.int .i64 0,.int .u64 0,.int .u64 0,.nilFunc,.pointer none] 62)
 generalize (w.alloc (.cells #[.int .i64 0,.int .i64 0,.int .i64 0,.int .u64 0,.int .u64 0,.nilFunc,.pointer none] 62)) = W at hE hb0 hW ⊢
 replace k1:=(hE.block _ (heap_lt k1.out)).trans k1.out
 replace k2:=(hE.block _ (heap_lt k2.out)).trans k2.out
 replace k3:=(hE.block _ (heap_lt k3.out)).trans k3.out
 replace k4:=(hE.block _ (heap_lt k4.out)).trans k4.out
 replace k5:=(hE.block _ (heap_lt k5.out)).trans k5.out
 clear hW
 clear c0 c1 c2 c3 c4 c5 lt d2_0 e2 d3_0 d3_1 e3 d4_0 e4 d5_0 e5
 refine (rnmd_is p hp x n hn W).mono ?_
 rintro e w1 ⟨rfl,hx⟩
 replace hE:=ext_trans hE hx
 replace hb0:=(hx.block _ (heap_lt hb0)).trans hb0
 replace k1:=(hx.block _ (heap_lt k1)).trans k1
 replace k2:=(hx.block _ (heap_lt k2)).trans k2
 replace k3:=(hx.block _ (heap_lt k3)).trans k3
 replace k4:=(hx.block _ (heap_lt k4)).trans k4
 replace k5:=(hx.block _ (heap_lt k5)).trans k5
 clear hx
 have ⟨c0,c1,c2,c3,c4,c5,lt⟩:=PBox.plc k1
 replace hE:=Lib.hid hE
 replace hb0:=Lib.hid hb0
 replace k1:=Lib.hid k1
 replace k2:=Lib.hid k2
 replace k3:=Lib.hid k3
 replace k4:=Lib.hid k4
 replace k5:=Lib.hid k5
 go_wp2_with (go_at_call 250;refine Hid.out ?_)
 refine Lib.hid ?_
 replace hE:=hE.out
 replace hb0:=hb0.out
 replace k1:=k1.out
 replace k2:=k2.out
 replace k3:=k3.out
 replace k4:=k4.out
 replace k5:=k5.out
 clear c0 c1 c2 c3 c4 c5 lt
 have hx:Ext w1 (w1.alloc (.cells #[.int .i64 n] 3)):=ext_alloc _ (ext_refl w1)
 have hb1:(w1.alloc (.cells #[.int .i64 n] 3)).heap[w1.heap.size]? = some (.cells #[.int .i64 n] 3):=heap_at _ _ _ rfl
 have hszhb1:=hE.size
 have hrbhb1:=heap_lt hb0
 generalize w1.alloc (.cells #[.int .i64 n] 3) = w1A at hx hb1 ⊢
 replace hE:=ext_trans hE hx
 replace hb0:=(hx.block _ (heap_lt hb0)).trans hb0
 replace k1:=(hx.block _ (heap_lt k1)).trans k1
 replace k2:=(hx.block _ (heap_lt k2)).trans k2
 replace k3:=(hx.block _ (heap_lt k3)).trans k3
 replace k4:=(hx.block _ (heap_lt k4)).trans k4
 replace k5:=(hx.block _ (heap_lt k5)).trans k5
 clear hx
 refine (stys_PT p n w1A hp hnr.out).mono ?_
 rintro e w2 ⟨v1,F1,rfl,hx,hp1,hbn1,hsub⟩
 have hn1:¬ F1 (w.heap.size):=fun h => (hsub _ h).elim (fun h => h) fun h => by have:=heap_lt hb0;omega
 have hs1:∀ j,F1 j → noF j ∨ w.heap.size ≤ j:=fun j hj => (hsub j hj).imp_right fun h => Nat.le_trans hE.size h
 replace hE:=ext_trans hE hx
 replace hb0:=(hx.block _ (heap_lt hb0)).trans hb0
 replace k1:=(hx.block _ (heap_lt k1)).trans k1
 replace k2:=(hx.block _ (heap_lt k2)).trans k2
 replace k3:=(hx.block _ (heap_lt k3)).trans k3
 replace k4:=(hx.block _ (heap_lt k4)).trans k4
 replace k5:=(hx.block _ (heap_lt k5)).trans k5
 replace hb1:=(hx.block _ (heap_lt hb1)).trans hb1
 clear hx hsub
 replace hE:=Lib.hid hE
 replace hb0:=Lib.hid hb0
 replace k1:=Lib.hid k1
 replace k2:=Lib.hid k2
 replace k3:=Lib.hid k3
 replace k4:=Lib.hid k4
 replace k5:=Lib.hid k5
 replace hb1:=Lib.hid hb1
 replace hp1:=Lib.hid hp1
 replace hbn1:=Lib.hid hbn1
 replace hs1:=Lib.hid hs1
 replace hn1:=Lib.hid hn1
 go_wp2_with (go_at_call 216;refine Hid.out ?_)
 refine Lib.hid ?_
 replace hE:=hE.out
 replace hb0:=hb0.out
 replace k1:=k1.out
 replace k2:=k2.out
 replace k3:=k3.out
 replace k4:=k4.out
 replace k5:=k5.out
 replace hb1:=hb1.out
 replace hp1:=hp1.out
 replace hbn1:=hbn1.out
 replace hs1:=hs1.out
 replace hn1:=hn1.out
 have hCT:=sc3_CT p t i n N were left go F g caps B2 B3 B1 B4 B5 w1.heap.size w2 (hA.out.agr (Agr.of_ext hE hF)) (hA2.out.agr (Agr.of_ext hE hF)) h0 h1 k2 k3 k1 k4 k5 hb1 (hF.ext hE.size)
 refine (then_BI _ _ F1 _ v1 _ w2 hp1 hCT hbn1 (fun j h => by rcases h with h | rfl | rfl | rfl | rfl | rfl | rfl;exact Nat.lt_of_lt_of_le (hF j h) hE.size;exact heap_lt k2;exact heap_lt k3;exact heap_lt k1;exact heap_lt k4;exact heap_lt k5;exact heap_lt hb1)).mono ?_
 rintro e w' hR
 obtain ⟨v',F',rfl,hX,hp,hbn,hsub,hnF,hbq⟩:=hR.tail (G:=(fun j => F j ∨ j = B1 ∨ j = B2 ∨ j = B3 ∨ j = B4 ∨ j = B5)) (w.heap.size) hE (heap_lt hb0) (fun h => by rcases h with h | h | h | h | h | h | h | h;exact hn1 h;(have:=hF _ h;omega);omega;omega;omega;omega;omega;omega) (fun j h => by rcases h with h | h | h | h | h | h | h | h;exact (hs1 j h).imp_left False.elim;exact .inl (.inl h);exact .inl (.inr (.inr (.inl h)));exact .inl (.inr (.inr (.inr (.inl h))));exact .inl (.inr (.inl h));exact .inl (.inr (.inr (.inr (.inr (.inl h)))));exact .inl (.inr (.inr (.inr (.inr (.inr h)))));exact .inr (by omega))
 have hbx:=hbq.trans hb0
 clear hbq hR
 clear hE hb0 k1 k2 k3 k4 k5 hb1 hp1 hbn1 hs1 hn1 hA hA2 hnr hCT
 obtain ⟨y,a2,fn2,rfl,HFN,HX⟩:=tlI hp hX hbx hbn hsub hnF (by omega)
 obtain ⟨c0,c1,c2,c3,c4,c5,c6,cz,ll⟩:=sev_of hbx
 clear hX hbx hp hbn hsub hnF
 rcases HFN.out with rfl | ⟨g',caps',rfl⟩
 all_goals
  go_wp2
  clear c0 c1 c2 c3 c4 c5 c6 cz ll
  obtain ⟨hX,hB,hP⟩:=HX.out
  clear HX
  generalize (World.setCell _ (⟨w.heap.size,6,none⟩ : Addr) _) = Z at hX hB hP ⊢
  obtain ⟨c0,c1,c2,c3,c4,c5,c6,cz,ll⟩:=sev_of hB
  exact bodyPost_ret (by simp only [results,Tryz.results249,go_sem];simp [go_sem,c0,c1,c2,c3,c4,c5,c6]) rfl ⟨_,F',rfl,hX,hP⟩
theorem sc2_CT (p:Pl) (t i:Int) (N:Nat) (were left:Int) (go:Int → Int → Tr Int) (F:Nat → Prop) (g:FuncId) (caps:Array Value) (B1 B2 B3 B4 B5:Nat) (w:World) (hA:AG were left (go were left) F (.func (.func g) #[] caps) w) (hA2:AG were (left - 1) (go were (left - 1)) F (.func (.func g) #[] caps) w) (h0:1 ≤ left) (h1:left ≤ 1024) (hp:p.ok) (k1:PBox B1 p w) (k2:w.heap[B2]? = some (.cells #[.func (.func g) #[] caps] 294 (0,0))) (k3:w.heap[B3]? = some (.cells #[.int .i64 were,.int .i64 left] 284 (0,0))) (k4:w.heap[B4]? = some (.cells #[.int .i64 t] 3 (0,0))) (k5:w.heap[B5]? = some (.cells #[.int .i64 i] 3 (0,0))) (hF:Bnd F w) :
  CT kU kI (fun x => sc2T p t i N were left go x) (fun j => F j ∨ j = B1 ∨ j = B2 ∨ j = B3 ∨ j = B4 ∨ j = B5) (.func (.func 249) #[] #[.pointer (some ⟨B1,0,none⟩),.pointer (some ⟨B2,0,none⟩),.pointer (some ⟨B3,0,none⟩),.pointer (some ⟨B4,0,none⟩),.pointer (some ⟨B5,0,none⟩)]) w:=by
 refine ⟨_,_,rfl,enters_of Tryz.func249 (by kernel_rfl) rfl,fun x w' ha => ?_⟩
 have hFw:Agr F w w':=ha.sub fun j h => .inl h
 exact (sc2_PT p t i N were left go x F g caps B1 B2 B3 B4 B5 w' (hA.agr hFw) (hA2.agr hFw) h0 h1 hp ((ha B1 (.inr (.inl rfl))).trans k1) ((ha B2 (.inr (.inr (.inl rfl)))).trans k2) ((ha B3 (.inr (.inr (.inr (.inl rfl))))).trans k3) ((ha B4 (.inr (.inr (.inr (.inr (.inl rfl)))))).trans k4) ((ha B5 (.inr (.inr (.inr (.inr (.inr rfl)))))).trans k5) (hF.agr hFw)).mono fun _ _ h => h.mono fun j h => h
theorem gon_scn (p:Pl) (t i a b:Int) (tr:Tr Int) (B1 B2 B3:Nat) (w:World) (ew:wrap64 (i - 1) = i - 1) (hN:∀ W,Calls Tryz.prog 221 #[plV p,.int .i64 t,.int .i64 (i - 1),.agg #[.int .i64 a,.int .i64 b]] W (RetP (PT kI tr) noF W)) (k1:PBox B1 p w) (k2:w.heap[B2]? = some (.cells #[.int .i64 t] 3 (0,0))) (k3:w.heap[B3]? = some (.cells #[.int .i64 i] 3 (0,0))) :
  Calls Tryz.prog 248 #[.agg #[.int .i64 a,.int .i64 b],.pointer (some ⟨B1,0,none⟩),.pointer (some ⟨B2,0,none⟩),.pointer (some ⟨B3,0,none⟩)] w (RetP (PT kI (tr)) noF w):=by
 have qk1:=heap_lt k1
 have ⟨c0,c1,c2,c3,c4,c5,lt⟩:=PBox.plc k1
 have qk2:=heap_lt k2
 have d2_0:=cell_at (o:=0) k2 rfl
 have e2:=cell_lt d2_0
 have qk3:=heap_lt k3
 have d3_0:=cell_at (o:=0) k3 rfl
 have e3:=cell_lt d3_0
 replace k1:=Lib.hid k1
 replace k2:=Lib.hid k2
 replace k3:=Lib.hid k3
 replace hN:=Lib.hid hN
 go_enter Tryz.func248,Tryz.ntmps248
 go_wp2_with (go_at_call 221;refine Hid.out ?_)
 refine Lib.hid ?_
 have ⟨hE,hb0,hb1,hW⟩:=al2 w (.cells #[.int .i64 a,.int .i64 b] 284) (.cells #[.int .i64 0,.int .i64 0,.int .i64 0,.int .u64 0,.int .u64 0,.nilFunc,.pointer none] 62)
 generalize ((w.alloc (.cells #[.int .i64 a,.int .i64 b] 284)).alloc (.cells #[.int .i64 0,.int .i64 0,.int .i64 0,.int .u64 0,.int .u64 0,.nilFunc,.pointer none] 62)) = W at hE hb0 hb1 hW ⊢
 replace k1:=(hE.block _ (heap_lt k1.out)).trans k1.out
 replace k2:=(hE.block _ (heap_lt k2.out)).trans k2.out
 replace k3:=(hE.block _ (heap_lt k3.out)).trans k3.out
 clear hW
 clear c0 c1 c2 c3 c4 c5 lt d2_0 e2 d3_0 e3
 refine (hN.out W).mono ?_
 rintro e w' hR
 obtain ⟨v',F',rfl,hX,hp,hbn,hsub,hnF,hbq⟩:=hR.tail (G:=noF) (w.heap.size+1) hE (heap_lt hb1) (fun h => h) (fun _ h => h.elim)
 have hbx:=hbq.trans hb1
 clear hbq hR
 clear hE hb0 hb1 k1 k2 k3 hN
 obtain ⟨y,a2,fn2,rfl,HFN,HX⟩:=tlI hp hX hbx hbn hsub hnF (by omega)
 obtain ⟨c0,c1,c2,c3,c4,c5,c6,cz,ll⟩:=sev_of hbx
 clear hX hbx hp hbn hsub hnF
 rcases HFN.out with rfl | ⟨g',caps',rfl⟩
 all_goals
  go_wp2
  clear c0 c1 c2 c3 c4 c5 c6 cz ll
  obtain ⟨hX,hB,hP⟩:=HX.out
  clear HX
  generalize (World.setCell _ (⟨w.heap.size+1,6,none⟩ : Addr) _) = Z at hX hB hP ⊢
  obtain ⟨c0,c1,c2,c3,c4,c5,c6,cz,ll⟩:=sev_of hB
  exact bodyPost_ret (by simp only [results,Tryz.results248,go_sem];simp [go_sem,c0,c1,c2,c3,c4,c5,c6]) rfl ⟨_,F',rfl,hX,hP⟩
theorem gon_AG (p:Pl) (t i a b:Int) (tr:Tr Int) (B1 B2 B3:Nat) (w:World) (ew:wrap64 (i - 1) = i - 1) (hN:∀ W,Calls Tryz.prog 221 #[plV p,.int .i64 t,.int .i64 (i - 1),.agg #[.int .i64 a,.int .i64 b]] W (RetP (PT kI tr) noF W)) (k1:PBox B1 p w) (k2:w.heap[B2]? = some (.cells #[.int .i64 t] 3 (0,0))) (k3:w.heap[B3]? = some (.cells #[.int .i64 i] 3 (0,0))):AG a b tr (fun j => j = B1 ∨ j = B2 ∨ j = B3) (.func (.func 248) #[] #[.pointer (some ⟨B1,0,none⟩),.pointer (some ⟨B2,0,none⟩),.pointer (some ⟨B3,0,none⟩)]) w:=
 ⟨_,_,rfl,enters_of Tryz.func248 (by kernel_rfl) rfl,fun w' ha => (gon_scn p t i a b tr B1 B2 B3 w' ew hN ((ha B1 (.inl rfl)).trans k1) ((ha B2 (.inr (.inl rfl))).trans k2) ((ha B3 (.inr (.inr rfl))).trans k3)).mono fun _ _ h => h.mono fun _ h => h.elim⟩
theorem scn_end (p:Pl) (t i were left:Int) (w:World) (hi:i < 0) (ew:wrap64 (were - left) = were - left)  :
  Calls Tryz.prog 221 #[plV p,.int .i64 t,.int .i64 i,.agg #[.int .i64 were,.int .i64 left]] w (RetP (PT kI (.done (were - left))) noF w):=by
 go_enter Tryz.func221,Tryz.ntmps221
 go_wp2_with (go_at_call 141;refine Hid.out ?_)
 refine Lib.hid ?_
 have ⟨hE,hb0,hb1,hb2,hb3,hb4,hW⟩:=al5 w (.cells #[.int .i64 p.n,.int .i64 p.t,.int .i64 p.r,.int .i64 p.d,.int .i64 p.b,.int .i64 p.g] 23) (.cells #[.int .i64 t] 3) (.cells #[.int .i64 i] 3) (.cells #[.int .i64 were,.int .i64 left] 284) (.cells #[.int .i64 0,.int .i64 0,.int .i64 0,.int .u64 0,.int .u64 0,.nilFunc,.pointer none] 62)
 generalize (((((w.alloc (.cells #[.int .i64 p.n,.int .i64 p.t,.int .i64 p.r,.int .i64 p.d,.int .i64 p.b,.int .i64 p.g] 23)).alloc (.cells #[.int .i64 t] 3)).alloc (.cells #[.int .i64 i] 3)).alloc (.cells #[.int .i64 were,.int .i64 left] 284)).alloc (.cells #[.int .i64 0,.int .i64 0,.int .i64 0,.int .u64 0,.int .u64 0,.nilFunc,.pointer none] 62)) = W at hE hb0 hb1 hb2 hb3 hb4 hW ⊢
 clear hW
 refine (doneI_PT (were - left) W).mono ?_
 rintro e w' hR
 obtain ⟨v',F',rfl,hX,hp,hbn,hsub,hnF,hbq⟩:=hR.tail (G:=noF) (w.heap.size+1+1+1+1) hE (heap_lt hb4) (fun h => h) (fun _ h => h.elim)
 have hbx:=hbq.trans hb4
 clear hbq hR
 clear hE hb0 hb1 hb2 hb3 hb4
 obtain ⟨y,a2,fn2,rfl,HFN,HX⟩:=tlI hp hX hbx hbn hsub hnF (by omega)
 obtain ⟨c0,c1,c2,c3,c4,c5,c6,cz,ll⟩:=sev_of hbx
 clear hX hbx hp hbn hsub hnF
 rcases HFN.out with rfl | ⟨g',caps',rfl⟩
 all_goals
  go_wp2
  clear c0 c1 c2 c3 c4 c5 c6 cz ll
  obtain ⟨hX,hB,hP⟩:=HX.out
  clear HX
  generalize (World.setCell _ (⟨w.heap.size+1+1+1+1,6,none⟩ : Addr) _) = Z at hX hB hP ⊢
  obtain ⟨c0,c1,c2,c3,c4,c5,c6,cz,ll⟩:=sev_of hB
  exact bodyPost_ret (by simp only [results,Tryz.results221,go_sem];simp [go_sem,c0,c1,c2,c3,c4,c5,c6]) rfl ⟨_,F',rfl,hX,hP⟩
theorem scn_more (p:Pl) (t i:Int) (N:Nat) (were left:Int) (go:Int → Int → Tr Int) (w:World) (hp:p.ok) (hi:0 ≤ i) (hi2:i ≤ 1024) (h0:1 ≤ left) (h1:left ≤ 1024) (hN1:∀ W,Calls Tryz.prog 221 #[plV p,.int .i64 t,.int .i64 (i - 1),.agg #[.int .i64 were,.int .i64 left]] W (RetP (PT kI (go were left)) noF W)) (hN2:∀ W,Calls Tryz.prog 221 #[plV p,.int .i64 t,.int .i64 (i - 1),.agg #[.int .i64 were,.int .i64 (left - 1)]] W (RetP (PT kI (go were (left - 1))) noF W))  :
  Calls Tryz.prog 221 #[plV p,.int .i64 t,.int .i64 i,.agg #[.int .i64 were,.int .i64 left]] w (RetP (PT kI ((getT (p.retF t i)).bind (sc2T p t i N were left go))) noF w):=by
 have ew:wrap64 (i - 1) = i - 1:=by unfold wrap64;omega
 have gi:¬ i < 0:=by omega
 replace hN1:=Lib.hid hN1
 replace hN2:=Lib.hid hN2
 go_enter Tryz.func221,Tryz.ntmps221
 go_wp2_with (go_at_call 98;refine Hid.out ?_)
 refine Lib.hid ?_
 have hE:Ext w ((((((w.alloc (.cells #[.int .i64 p.n,.int .i64 p.t,.int .i64 p.r,.int .i64 p.d,.int .i64 p.b,.int .i64 p.g] 23)).alloc (.cells #[.int .i64 t] 3)).alloc (.cells #[.int .i64 i] 3)).alloc (.cells #[.int .i64 were,.int .i64 left] 284)).alloc (.cells #[.int .i64 0,.int .i64 0,.int .i64 0,.int .u64 0,.int .u64 0,.nilFunc,.pointer none] 62)).alloc (.cells #[.func (.func 248) #[] #[.pointer (some ⟨w.heap.size,0,none⟩),.pointer (some ⟨w.heap.size+1,0,none⟩),.pointer (some ⟨w.heap.size+1+1,0,none⟩)]] 294)):=by repeat (first | exact ext_refl _ | apply ext_alloc)
 have hb0:((((((w.alloc (.cells #[.int .i64 p.n,.int .i64 p.t,.int .i64 p.r,.int .i64 p.d,.int .i64 p.b,.int .i64 p.g] 23)).alloc (.cells #[.int .i64 t] 3)).alloc (.cells #[.int .i64 i] 3)).alloc (.cells #[.int .i64 were,.int .i64 left] 284)).alloc (.cells #[.int .i64 0,.int .i64 0,.int .i64 0,.int .u64 0,.int .u64 0,.nilFunc,.pointer none] 62)).alloc (.cells #[.func (.func 248) #[] #[.pointer (some ⟨w.heap.size,0,none⟩),.pointer (some ⟨w.heap.size+1,0,none⟩),.pointer (some ⟨w.heap.size+1+1,0,none⟩)]] 294)).heap[w.heap.size]? = some (.cells #[.int .i64 p.n,.int .i64 p.t,.int .i64 p.r,.int .i64 p.d,.int .i64 p.b,.int .i64 p.g] 23):=(Below.heap_alloc _ _ _ (by simp <;> omega)).trans ((Below.heap_alloc _ _ _ (by simp <;> omega)).trans ((Below.heap_alloc _ _ _ (by simp <;> omega)).trans ((Below.heap_alloc _ _ _ (by simp <;> omega)).trans ((Below.heap_alloc _ _ _ (by simp <;> omega)).trans (heap_at _ _ _ (by simp))))))
 have hb1:((((((w.alloc (.cells #[.int .i64 p.n,.int .i64 p.t,.int .i64 p.r,.int .i64 p.d,.int .i64 p.b,.int .i64 p.g] 23)).alloc (.cells #[.int .i64 t] 3)).alloc (.cells #[.int .i64 i] 3)).alloc (.cells #[.int .i64 were,.int .i64 left] 284)).alloc (.cells #[.int .i64 0,.int .i64 0,.int .i64 0,.int .u64 0,.int .u64 0,.nilFunc,.pointer none] 62)).alloc (.cells #[.func (.func 248) #[] #[.pointer (some ⟨w.heap.size,0,none⟩),.pointer (some ⟨w.heap.size+1,0,none⟩),.pointer (some ⟨w.heap.size+1+1,0,none⟩)]] 294)).heap[w.heap.size+1]? = some (.cells #[.int .i64 t] 3):=(Below.heap_alloc _ _ _ (by simp <;> omega)).trans ((Below.heap_alloc _ _ _ (by simp <;> omega)).trans ((Below.heap_alloc _ _ _ (by simp <;> omega)).trans ((Below.heap_alloc _ _ _ (by simp <;> omega)).trans (heap_at _ _ _ (by simp)))))
 have hb2:((((((w.alloc (.cells #[.int .i64 p.n,.int .i64 p.t,.int .i64 p.r,.int .i64 p.d,.int .i64 p.b,.int .i64 p.g] 23)).alloc (.cells #[.int .i64 t] 3)).alloc (.cells #[.int .i64 i] 3)).alloc (.cells #[.int .i64 were,.int .i64 left] 284)).alloc (.cells #[.int .i64 0,.int .i64 0,.int .i64 0,.int .u64 0,.int .u64 0,.nilFunc,.pointer none] 62)).alloc (.cells #[.func (.func 248) #[] #[.pointer (some ⟨w.heap.size,0,none⟩),.pointer (some ⟨w.heap.size+1,0,none⟩),.pointer (some ⟨w.heap.size+1+1,0,none⟩)]] 294)).heap[w.heap.size+1+1]? = some (.cells #[.int .i64 i] 3):=(Below.heap_alloc _ _ _ (by simp <;> omega)).trans ((Below.heap_alloc _ _ _ (by simp <;> omega)).trans ((Below.heap_alloc _ _ _ (by simp <;> omega)).trans (heap_at _ _ _ (by simp))))
 have hb3:((((((w.alloc (.cells #[.int .i64 p.n,.int .i64 p.t,.int .i64 p.r,.int .i64 p.d,.int .i64 p.b,.int .i64 p.g] 23)).alloc (.cells #[.int .i64 t] 3)).alloc (.cells #[.int .i64 i] 3)).alloc (.cells #[.int .i64 were,.int .i64 left] 284)).alloc (.cells #[.int .i64 0,.int .i64 0,.int .i64 0,.int .u64 0,.int .u64 0,.nilFunc,.pointer none] 62)).alloc (.cells #[.func (.func 248) #[] #[.pointer (some ⟨w.heap.size,0,none⟩),.pointer (some ⟨w.heap.size+1,0,none⟩),.pointer (some ⟨w.heap.size+1+1,0,none⟩)]] 294)).heap[w.heap.size+1+1+1]? = some (.cells #[.int .i64 were,.int .i64 left] 284):=(Below.heap_alloc _ _ _ (by simp <;> omega)).trans ((Below.heap_alloc _ _ _ (by simp <;> omega)).trans (heap_at _ _ _ (by simp)))
 have hb4:((((((w.alloc (.cells #[.int .i64 p.n,.int .i64 p.t,.int .i64 p.r,.int .i64 p.d,.int .i64 p.b,.int .i64 p.g] 23)).alloc (.cells #[.int .i64 t] 3)).alloc (.cells #[.int .i64 i] 3)).alloc (.cells #[.int .i64 were,.int .i64 left] 284)).alloc (.cells #[.int .i64 0,.int .i64 0,.int .i64 0,.int .u64 0,.int .u64 0,.nilFunc,.pointer none] 62)).alloc (.cells #[.func (.func 248) #[] #[.pointer (some ⟨w.heap.size,0,none⟩),.pointer (some ⟨w.heap.size+1,0,none⟩),.pointer (some ⟨w.heap.size+1+1,0,none⟩)]] 294)).heap[w.heap.size+1+1+1+1]? = some (.cells #[.int .i64 0,.int .i64 0,.int .i64 0,.int .u64 0,.int .u64 0,.nilFunc,.pointer none] 62):=(Below.heap_alloc _ _ _ (by simp <;> omega)).trans (heap_at _ _ _ (by simp))
 have hb5:((((((w.alloc (.cells #[.int .i64 p.n,.int .i64 p.t,.int .i64 p.r,.int .i64 p.d,.int .i64 p.b,.int .i64 p.g] 23)).alloc (.cells #[.int .i64 t] 3)).alloc (.cells #[.int .i64 i] 3)).alloc (.cells #[.int .i64 were,.int .i64 left] 284)).alloc (.cells #[.int .i64 0,.int .i64 0,.int .i64 0,.int .u64 0,.int .u64 0,.nilFunc,.pointer none] 62)).alloc (.cells #[.func (.func 248) #[] #[.pointer (some ⟨w.heap.size,0,none⟩),.pointer (some ⟨w.heap.size+1,0,none⟩),.pointer (some ⟨w.heap.size+1+1,0,none⟩)]] 294)).heap[w.heap.size+1+1+1+1+1]? = some (.cells #[.func (.func 248) #[] #[.pointer (some ⟨w.heap.size,0,none⟩),.pointer (some ⟨w.heap.size+1,0,none⟩),.pointer (some ⟨w.heap.size+1+1,0,none⟩)]] 294):=heap_at _ _ _ (by simp)
 have hW:((((((w.alloc (.cells #[.int .i64 p.n,.int .i64 p.t,.int .i64 p.r,.int .i64 p.d,.int .i64 p.b,.int .i64 p.g] 23)).alloc (.cells #[.int .i64 t] 3)).alloc (.cells #[.int .i64 i] 3)).alloc (.cells #[.int .i64 were,.int .i64 left] 284)).alloc (.cells #[.int .i64 0,.int .i64 0,.int .i64 0,.int .u64 0,.int .u64 0,.nilFunc,.pointer none] 62)).alloc (.cells #[.func (.func 248) #[] #[.pointer (some ⟨w.heap.size,0,none⟩),.pointer (some ⟨w.heap.size+1,0,none⟩),.pointer (some ⟨w.heap.size+1+1,0,none⟩)]] 294)).heap.size = w.heap.size+1+1+1+1+1+1:=by simp
 generalize ((((((w.alloc (.cells #[.int .i64 p.n,.int .i64 p.t,.int .i64 p.r,.int .i64 p.d,.int .i64 p.b,.int .i64 p.g] 23)).alloc (.cells #[.int .i64 t] 3)).alloc (.cells #[.int .i64 i] 3)).alloc (.cells #[.int .i64 were,.int .i64 left] 284)).alloc (.cells #[.int .i64 0,.int .i64 0,.int .i64 0,.int .u64 0,.int .u64 0,.nilFunc,.pointer none] 62)).alloc (.cells #[.func (.func 248) #[] #[.pointer (some ⟨w.heap.size,0,none⟩),.pointer (some ⟨w.heap.size+1,0,none⟩),.pointer (some ⟨w.heap.size+1+1,0,none⟩)]] 294)) = W at hE hb0 hb1 hb2 hb3 hb4 hb5 hW ⊢
 clear hW
 refine (retired_any p t i W).mono ?_
 rintro e w1 ⟨rfl,hx⟩
 replace hE:=ext_trans hE hx
 replace hb0:=(hx.block _ (heap_lt hb0)).trans hb0
 replace hb1:=(hx.block _ (heap_lt hb1)).trans hb1
 replace hb2:=(hx.block _ (heap_lt hb2)).trans hb2
 replace hb3:=(hx.block _ (heap_lt hb3)).trans hb3
 replace hb4:=(hx.block _ (heap_lt hb4)).trans hb4
 replace hb5:=(hx.block _ (heap_lt hb5)).trans hb5
 clear hx
 replace hE:=Lib.hid hE
 replace hb0:=Lib.hid hb0
 replace hb1:=Lib.hid hb1
 replace hb2:=Lib.hid hb2
 replace hb3:=Lib.hid hb3
 replace hb4:=Lib.hid hb4
 replace hb5:=Lib.hid hb5
 go_wp2_with (go_at_call 117;refine Hid.out ?_)
 refine Lib.hid ?_
 replace hE:=hE.out
 replace hb0:=hb0.out
 replace hb1:=hb1.out
 replace hb2:=hb2.out
 replace hb3:=hb3.out
 replace hb4:=hb4.out
 replace hb5:=hb5.out
 refine (get_PT (p.retF t i) w1).mono ?_
 rintro e w2 ⟨v1,F1,rfl,hx,hp1,hbn1,hsub⟩
 have hn1:¬ F1 (w.heap.size+1+1+1+1):=fun h => (hsub _ h).elim (fun h => h) fun h => by have:=heap_lt hb4;omega
 have hs1:∀ j,F1 j → noF j ∨ w.heap.size ≤ j:=fun j hj => (hsub j hj).imp_right fun h => Nat.le_trans hE.size h
 replace hE:=ext_trans hE hx
 replace hb0:=(hx.block _ (heap_lt hb0)).trans hb0
 replace hb1:=(hx.block _ (heap_lt hb1)).trans hb1
 replace hb2:=(hx.block _ (heap_lt hb2)).trans hb2
 replace hb3:=(hx.block _ (heap_lt hb3)).trans hb3
 replace hb4:=(hx.block _ (heap_lt hb4)).trans hb4
 replace hb5:=(hx.block _ (heap_lt hb5)).trans hb5
 clear hx hsub
 replace hE:=Lib.hid hE
 replace hb0:=Lib.hid hb0
 replace hb1:=Lib.hid hb1
 replace hb2:=Lib.hid hb2
 replace hb3:=Lib.hid hb3
 replace hb4:=Lib.hid hb4
 replace hb5:=Lib.hid hb5
 replace hp1:=Lib.hid hp1
 replace hbn1:=Lib.hid hbn1
 replace hs1:=Lib.hid hs1
 replace hn1:=Lib.hid hn1
 go_wp2_with (go_at_call 139;refine Hid.out ?_)
 refine Lib.hid ?_
 replace hE:=hE.out
 replace hb0:=hb0.out
 replace hb1:=hb1.out
 replace hb2:=hb2.out
 replace hb3:=hb3.out
 replace hb4:=hb4.out
 replace hb5:=hb5.out
 replace hp1:=hp1.out
 replace hbn1:=hbn1.out
 replace hs1:=hs1.out
 replace hn1:=hn1.out
 have hG1:=gon_AG p t i were left (go were left) w.heap.size (w.heap.size+1) (w.heap.size+1+1) w2 ew hN1.out hb0 hb1 hb2
 have hG2:=gon_AG p t i were (left - 1) (go were (left - 1)) w.heap.size (w.heap.size+1) (w.heap.size+1+1) w2 ew hN2.out hb0 hb1 hb2
 have hGB:Bnd (fun j => j = w.heap.size ∨ j = w.heap.size+1 ∨ j = w.heap.size+1+1) w2:=fun j h => by rcases h with rfl | rfl | rfl;exact heap_lt hb0;exact heap_lt hb1;exact heap_lt hb2
 have hCT:=sc2_CT p t i N were left go _ _ _ w.heap.size (w.heap.size+1+1+1+1+1) (w.heap.size+1+1+1) (w.heap.size+1) (w.heap.size+1+1) w2 hG1 hG2 h0 h1 hp hb0 hb5 hb3 hb1 hb2 hGB
 refine (then_UI _ _ F1 _ v1 _ w2 hp1 hCT hbn1 (fun j h => by rcases h with h | rfl | rfl | rfl | rfl | rfl;exact hGB j h;exact heap_lt hb0;exact heap_lt hb5;exact heap_lt hb3;exact heap_lt hb1;exact heap_lt hb2)).mono ?_
 rintro e w' hR
 obtain ⟨v',F',rfl,hX,hp,hbn,hsub,hnF,hbq⟩:=hR.tail (G:=noF) (w.heap.size+1+1+1+1) hE (heap_lt hb4) (fun h => by rcases h with h | h | h | h | h | h | h;exact hn1 h;(rcases h with h | h | h;omega;omega;omega);omega;omega;omega;omega;omega) (fun j h => by rcases h with h | h | h | h | h | h | h;exact (hs1 j h).imp_left False.elim;(rcases h with h | h | h;exact .inr (by omega);exact .inr (by omega);exact .inr (by omega));exact .inr (by omega);exact .inr (by omega);exact .inr (by omega);exact .inr (by omega);exact .inr (by omega))
 have hbx:=hbq.trans hb4
 clear hbq hR
 clear hE hb0 hb1 hb2 hb3 hb4 hb5 hp1 hbn1 hs1 hn1 hN1 hN2 hCT hG1 hG2 hGB
 obtain ⟨y,a2,fn2,rfl,HFN,HX⟩:=tlI hp hX hbx hbn hsub hnF (by omega)
 obtain ⟨c0,c1,c2,c3,c4,c5,c6,cz,ll⟩:=sev_of hbx
 clear hX hbx hp hbn hsub hnF
 rcases HFN.out with rfl | ⟨g',caps',rfl⟩
 all_goals
  go_wp2
  clear c0 c1 c2 c3 c4 c5 c6 cz ll
  obtain ⟨hX,hB,hP⟩:=HX.out
  clear HX
  generalize (World.setCell _ (⟨w.heap.size+1+1+1+1,6,none⟩ : Addr) _) = Z at hX hB hP ⊢
  obtain ⟨c0,c1,c2,c3,c4,c5,c6,cz,ll⟩:=sev_of hB
  exact bodyPost_ret (by simp only [results,Tryz.results221,go_sem];simp [go_sem,c0,c1,c2,c3,c4,c5,c6]) rfl ⟨_,F',rfl,hX,hP⟩
theorem scn_PT (p:Pl) (hp:p.ok) (t:Int) (N:Nat):∀ (k:Nat) (were left:Int),(k:Int) ≤ left → left ≤ were → were ≤ p.r → ∀ (w:World),
  Calls Tryz.prog 221 #[plV p,.int .i64 t,.int .i64 ((k:Int) - 1),.agg #[.int .i64 were,.int .i64 left]] w (RetP (PT kI (scnT p t N k were left)) noF w)
 | 0,were,left,h0,h1,h2,w => by
  have hr:p.r ≤ 1024:=by unfold Pl.ok at hp;omega
  exact scn_end p t _ were left w (by omega) (by unfold wrap64;omega)
 | k+1,were,left,h0,h1,h2,w => by
  have hr:p.r ≤ 1024:=by unfold Pl.ok at hp;omega
  have h:=scn_more p t (k:Int) N were left (scnT p t N k) w hp (by omega) (by omega) (by omega) (by omega) (fun W => scn_PT p hp t N k were left (by omega) h1 h2 W) (fun W => scn_PT p hp t N k were (left - 1) (by omega) (by omega) h2 W)
  rw [show (((k+1:Nat):Int) - 1) = (k:Int) by omega]
  exact h
theorem scan1_PT (p:Pl) (t:Int) (N:Nat) (x:BitVec 64) (B1 B2:Nat) (w:World) (hp:p.ok) (k1:PBox B1 p w) (k2:w.heap[B2]? = some (.cells #[.int .i64 t] 3 (0,0))) :
  Calls Tryz.prog 220 #[.int .u64 (U x),.pointer (some ⟨B1,0,none⟩),.pointer (some ⟨B2,0,none⟩)] w (RetP (PT kI (sc1T p t N x)) noF w):=by
 obtain ⟨m,hm⟩ : ∃ m,Hid (cntR p x = m):=⟨_,Lib.hid rfl⟩
 have hmr:=cntR_in hp x
 rw [hm.out] at hmr
 have hr2:p.r ≤ 1024:=by unfold Pl.ok at hp;omega
 have eT:sc1T p t N x = scnT p t N m.toNat m m:=by unfold sc1T;rw [hm.out]
 rw [eT]
 clear eT
 have ew:wrap64 (m - 1) = m - 1:=by unfold wrap64;omega
 have hS:=fun W => scn_PT p hp t N m.toNat m m (by omega) (by omega) hmr.2 W
 rw [show ((m.toNat:Int) - 1) = m - 1 by omega] at hS
 have qk1:=heap_lt k1
 have ⟨c0,c1,c2,c3,c4,c5,lt⟩:=PBox.plc k1
 have qk2:=heap_lt k2
 have d2_0:=cell_at (o:=0) k2 rfl
 have e2:=cell_lt d2_0
 replace k1:=Lib.hid k1
 replace k2:=Lib.hid k2
 replace hS:=Lib.hid hS
 go_enter Tryz.func220,Tryz.ntmps220
 go_wp2_with (go_at_call 95;refine Hid.out ?_)
 refine Lib.hid ?_
 have ⟨hE,hb0,hW⟩:=al1 w (.cells #[.int .i64 0,.int .i64 0,.int .i64 0,.int .u64 0,.int .u64 0,.nilFunc,.pointer none] 62)
 generalize (w.alloc (.cells #[.int .i64 0,.int .i64 0,.int .i64 0,.int .u64 0,.int .u64 0,.nilFunc,.pointer none] 62)) = W at hE hb0 hW ⊢
 replace k1:=(hE.block _ (heap_lt k1.out)).trans k1.out
 replace k2:=(hE.block _ (heap_lt k2.out)).trans k2.out
 clear hW
 clear c0 c1 c2 c3 c4 c5 lt d2_0 e2
 refine (rcnt_is p hp x m hm W).mono ?_
 rintro e w1 ⟨rfl,hx⟩
 replace hE:=ext_trans hE hx
 replace hb0:=(hx.block _ (heap_lt hb0)).trans hb0
 replace k1:=(hx.block _ (heap_lt k1)).trans k1
 replace k2:=(hx.block _ (heap_lt k2)).trans k2
 clear hx
 have ⟨c0,c1,c2,c3,c4,c5,lt⟩:=PBox.plc k1
 have d4_0:=cell_at (o:=0) k2 rfl
 have e4:=cell_lt d4_0
 replace hE:=Lib.hid hE
 replace hb0:=Lib.hid hb0
 replace k1:=Lib.hid k1
 replace k2:=Lib.hid k2
 go_wp2_with (go_at_call 221;refine Hid.out ?_)
 refine Lib.hid ?_
 replace hE:=hE.out
 replace hb0:=hb0.out
 replace k1:=k1.out
 replace k2:=k2.out
 clear c0 c1 c2 c3 c4 c5 lt d4_0 e4
 refine (hS.out w1).mono ?_
 rintro e w' hR
 obtain ⟨v',F',rfl,hX,hp,hbn,hsub,hnF,hbq⟩:=hR.tail (G:=noF) (w.heap.size) hE (heap_lt hb0) (fun h => h) (fun _ h => h.elim)
 have hbx:=hbq.trans hb0
 clear hbq hR
 clear hE hb0 k1 k2 hS
 obtain ⟨y,a2,fn2,rfl,HFN,HX⟩:=tlI hp hX hbx hbn hsub hnF (by omega)
 obtain ⟨c0,c1,c2,c3,c4,c5,c6,cz,ll⟩:=sev_of hbx
 clear hX hbx hp hbn hsub hnF
 rcases HFN.out with rfl | ⟨g',caps',rfl⟩
 all_goals
  go_wp2
  clear c0 c1 c2 c3 c4 c5 c6 cz ll
  obtain ⟨hX,hB,hP⟩:=HX.out
  clear HX
  generalize (World.setCell _ (⟨w.heap.size,6,none⟩ : Addr) _) = Z at hX hB hP ⊢
  obtain ⟨c0,c1,c2,c3,c4,c5,c6,cz,ll⟩:=sev_of hB
  exact bodyPost_ret (by simp only [results,Tryz.results220,go_sem];simp [go_sem,c0,c1,c2,c3,c4,c5,c6]) rfl ⟨_,F',rfl,hX,hP⟩
theorem scan1_CT (p:Pl) (t:Int) (N:Nat) (B1 B2:Nat) (w:World) (hp:p.ok) (k1:PBox B1 p w) (k2:w.heap[B2]? = some (.cells #[.int .i64 t] 3 (0,0))) :
  CT kU kI (fun x => sc1T p t N x) (fun j => j = B1 ∨ j = B2) (.func (.func 220) #[] #[.pointer (some ⟨B1,0,none⟩),.pointer (some ⟨B2,0,none⟩)]) w:=
 ⟨_,_,rfl,enters_of Tryz.func220 (by kernel_rfl) rfl,fun x w' ha => (scan1_PT p t N x B1 B2 w' hp ((ha B1 (.inl rfl)).trans k1) ((ha B2 (.inr rfl)).trans k2)).mono fun _ _ h => h.mono fun _ h => h.elim⟩
theorem scan_PT (p:Pl) (t:Int) (N:Nat) (w:World) (hp:p.ok)  :
  Calls Tryz.prog 148 #[plV p,.int .i64 t] w (RetP (PT kI (scanT p t N)) noF w):=by
 go_enter Tryz.func148,Tryz.ntmps148
 go_wp2_with (go_at_call 96;refine Hid.out ?_)
 refine Lib.hid ?_
 have ⟨hE,hb0,hb1,hb2,hW⟩:=al3 w (.cells #[.int .i64 p.n,.int .i64 p.t,.int .i64 p.r,.int .i64 p.d,.int .i64 p.b,.int .i64 p.g] 23) (.cells #[.int .i64 t] 3) (.cells #[.int .i64 0,.int .i64 0,.int .i64 0,.int .u64 0,.int .u64 0,.nilFunc,.pointer none] 62)
 generalize (((w.alloc (.cells #[.int .i64 p.n,.int .i64 p.t,.int .i64 p.r,.int .i64 p.d,.int .i64 p.b,.int .i64 p.g] 23)).alloc (.cells #[.int .i64 t] 3)).alloc (.cells #[.int .i64 0,.int .i64 0,.int .i64 0,.int .u64 0,.int .u64 0,.nilFunc,.pointer none] 62)) = W at hE hb0 hb1 hb2 hW ⊢
 clear hW
 refine (cnt_any p t W).mono ?_
 rintro e w1 ⟨rfl,hx⟩
 replace hE:=ext_trans hE hx
 replace hb0:=(hx.block _ (heap_lt hb0)).trans hb0
 replace hb1:=(hx.block _ (heap_lt hb1)).trans hb1
 replace hb2:=(hx.block _ (heap_lt hb2)).trans hb2
 clear hx
 replace hE:=Lib.hid hE
 replace hb0:=Lib.hid hb0
 replace hb1:=Lib.hid hb1
 replace hb2:=Lib.hid hb2
 go_wp2_with (go_at_call 117;refine Hid.out ?_)
 refine Lib.hid ?_
 replace hE:=hE.out
 replace hb0:=hb0.out
 replace hb1:=hb1.out
 replace hb2:=hb2.out
 refine (get_PT (p.cntF t) w1).mono ?_
 rintro e w2 ⟨v1,F1,rfl,hx,hp1,hbn1,hsub⟩
 have hn1:¬ F1 (w.heap.size+1+1):=fun h => (hsub _ h).elim (fun h => h) fun h => by have:=heap_lt hb2;omega
 have hs1:∀ j,F1 j → noF j ∨ w.heap.size ≤ j:=fun j hj => (hsub j hj).imp_right fun h => Nat.le_trans hE.size h
 replace hE:=ext_trans hE hx
 replace hb0:=(hx.block _ (heap_lt hb0)).trans hb0
 replace hb1:=(hx.block _ (heap_lt hb1)).trans hb1
 replace hb2:=(hx.block _ (heap_lt hb2)).trans hb2
 clear hx hsub
 replace hE:=Lib.hid hE
 replace hb0:=Lib.hid hb0
 replace hb1:=Lib.hid hb1
 replace hb2:=Lib.hid hb2
 replace hp1:=Lib.hid hp1
 replace hbn1:=Lib.hid hbn1
 replace hs1:=Lib.hid hs1
 replace hn1:=Lib.hid hn1
 go_wp2_with (go_at_call 139;refine Hid.out ?_)
 refine Lib.hid ?_
 replace hE:=hE.out
 replace hb0:=hb0.out
 replace hb1:=hb1.out
 replace hb2:=hb2.out
 replace hp1:=hp1.out
 replace hbn1:=hbn1.out
 replace hs1:=hs1.out
 replace hn1:=hn1.out
 have hCT:=scan1_CT p t N w.heap.size (w.heap.size+1) w2 hp hb0 hb1
 refine (then_UI _ _ F1 _ v1 _ w2 hp1 hCT hbn1 (fun j h => by rcases h with rfl | rfl;exact heap_lt hb0;exact heap_lt hb1)).mono ?_
 rintro e w' hR
 obtain ⟨v',F',rfl,hX,hp,hbn,hsub,hnF,hbq⟩:=hR.tail (G:=noF) (w.heap.size+1+1) hE (heap_lt hb2) (fun h => by rcases h with h | h | h;exact hn1 h;omega;omega) (fun j h => by rcases h with h | h | h;exact (hs1 j h).imp_left False.elim;exact .inr (by omega);exact .inr (by omega))
 have hbx:=hbq.trans hb2
 clear hbq hR
 clear hE hb0 hb1 hb2 hp1 hbn1 hs1 hn1 hCT
 obtain ⟨y,a2,fn2,rfl,HFN,HX⟩:=tlI hp hX hbx hbn hsub hnF (by omega)
 obtain ⟨c0,c1,c2,c3,c4,c5,c6,cz,ll⟩:=sev_of hbx
 clear hX hbx hp hbn hsub hnF
 rcases HFN.out with rfl | ⟨g',caps',rfl⟩
 all_goals
  go_wp2
  clear c0 c1 c2 c3 c4 c5 c6 cz ll
  obtain ⟨hX,hB,hP⟩:=HX.out
  clear HX
  generalize (World.setCell _ (⟨w.heap.size+1+1,6,none⟩ : Addr) _) = Z at hX hB hP ⊢
  obtain ⟨c0,c1,c2,c3,c4,c5,c6,cz,ll⟩:=sev_of hB
  exact bodyPost_ret (by simp only [results,Tryz.results148,go_sem];simp [go_sem,c0,c1,c2,c3,c4,c5,c6]) rfl ⟨_,F',rfl,hX,hP⟩
end Go.Proofs.YthjklbonebnekaaGreat

