/-
  What the call of Pop comes to. Conditions: those of each theorem.
-/
import Derived.Test.YthjklbonebnekaaGreatGak
set_option maxRecDepth 8000
set_option maxHeartbeats 4000000
namespace Go.Proofs.YthjklbonebnekaaGreat
open Go Go.RowKit
theorem Bnd.agr {F:Nat → Prop} {w w':World} (h:Bnd F w) (ha:Agr F w w'):Bnd F w':=fun j hj => by
 have hj':=h j hj
 have h0:w.heap[j]? = some w.heap[j]:=Array.getElem?_eq_getElem hj'
 exact heap_lt ((ha j hj).trans h0)
def AT (t:Tr Int) (F:Nat → Prop) (fn:Value) (w:World):Prop:=∃ g caps,fn = .func (.func g) #[] caps ∧ Enters g ∧ ∀ w',Agr F w w' → Calls Tryz.prog g caps w' (RetP (PT kI t) F w')
theorem AT.agr {t:Tr Int} {F:Nat → Prop} {fn:Value} {w w':World} (h:AT t F fn w) (ha:Agr F w w'):AT t F fn w':=by
 obtain ⟨g,caps,e,he,hc⟩:=h
 exact ⟨g,caps,e,he,fun u hu => hc u (ha.trans hu)⟩
theorem sw1_PT (b:Bool) (n:Int) (t:Tr Int) (F:Nat → Prop) (g:FuncId) (caps:Array Value) (B1 B2:Nat) (w:World) (k1:w.heap[B1]? = some (.cells #[.func (.func g) #[] caps] 145 (0,0))) (k2:w.heap[B2]? = some (.cells #[.int .i64 n] 3 (0,0))) (hg:Enters g) (hN:∀ W,Ext w W → Calls Tryz.prog g caps W (RetP (PT kI t) F W)) (hF:Bnd F w) :
  Calls Tryz.prog 218 #[.bool b,.pointer (some ⟨B1,0,none⟩),.pointer (some ⟨B2,0,none⟩)] w (RetP (PT kI (sw1T n t b)) F w):=by
 have c1:=cell_at (o:=0) k1 rfl
 have c2:=cell_at (o:=0) k2 rfl
 have l1:=cell_lt c1
 have l2:=cell_lt c2
 have HN:=Lib.hid hN
 unfold Enters at hg
 clear k1 k2 hN
 cases b with
 | true =>
  clear HN
  go_enter Tryz.func218,Tryz.ntmps218
  go_wp2_with (go_at_call 141;refine Hid.out ?_)
  refine Lib.hid ?_
  have ⟨hE,hb0,hW⟩:=al1 w (.cells #[.int .i64 0,.int .i64 0,.int .i64 0,.int .u64 0,.int .u64 0,.nilFunc,.pointer none] 62)
  generalize (w.alloc (.cells #[.int .i64 0,.int .i64 0,.int .i64 0,.int .u64 0,.int .u64 0,.nilFunc,.pointer none] 62)) = W at hE hb0 hW ⊢
  replace hW:=Lib.hid hW
  refine (doneI_PT n W).mono ?_
  rintro e w' hR
  obtain ⟨v',F',rfl,hX,hp,hbn,hsub,hnF,hbq⟩:=hR.tail (G:=F) (w.heap.size) hE (heap_lt hb0) (fun h => h) (fun _ h => h.elim)
  have hbx:=hbq.trans hb0
  clear hbq hR
  clear hE hb0 hW
  obtain ⟨y,a2,fn2,rfl,HFN,HX⟩:=tlI hp hX hbx hbn hsub hnF (by omega)
  obtain ⟨c0,c1,c2,c3,c4,c5,c6,cz,ll⟩:=sev_of hbx
  clear hX hbx hp hbn hsub hnF
  rcases HFN.out with rfl | ⟨g',caps',rfl⟩
  all_goals
   go_wp2
   clear c0 c1 c2 c3 c4 c5 c6 cz ll
   obtain ⟨hX,hB,hP⟩:=HX.out
   clear HX
   generalize (World.setCell _ (⟨w.heap.size,6,none⟩ : Addr) _) = Z at hX hB hP ⊢
   obtain ⟨c0,c1,c2,c3,c4,c5,c6,cz,ll⟩:=sev_of hB
   exact bodyPost_ret (by simp only [results,Tryz.results218,go_sem];simp [go_sem,c0,c1,c2,c3,c4,c5,c6]) rfl ⟨_,F',rfl,hX,hP⟩
 | false =>
  have hnF0:¬ F w.heap.size:=fun h => by have:=hF _ h;omega
  replace hnF0:=Lib.hid hnF0
  go_enter Tryz.func218,Tryz.ntmps218
  go_wp2_with (refine (HN.out _ (by repeat (first | exact ext_refl _ | apply ext_alloc))).mono ?_;rintro e w' hR;obtain ⟨v',F',rfl,hX,hp,hbn,hsub,hnF,hbq⟩:=hR.tail (G:=F) w.heap.size (ext_alloc _ (ext_refl w)) (by simp) hnF0.out (fun j h => .inl h);refine Hid.out ?_)
  refine Lib.hid ?_
  have hbx:=hbq.trans (heap_at w _ _ rfl)
  clear hbq hR HN
  obtain ⟨y,a2,fn2,rfl,HFN,HX⟩:=tlI hp hX hbx hbn hsub hnF (by omega)
  obtain ⟨c0,c1,c2,c3,c4,c5,c6,cz,ll⟩:=sev_of hbx
  clear hX hbx hp hbn hsub hnF
  rcases HFN.out with rfl | ⟨g',caps',rfl⟩
  all_goals
   go_wp2
   clear c0 c1 c2 c3 c4 c5 c6 cz ll
   obtain ⟨hX,hB,hP⟩:=HX.out
   clear HX
   generalize (World.setCell _ (⟨w.heap.size,6,none⟩ : Addr) _) = Z at hX hB hP ⊢
   obtain ⟨c0,c1,c2,c3,c4,c5,c6,cz,ll⟩:=sev_of hB
   exact bodyPost_ret (by simp only [results,Tryz.results218,go_sem];simp [go_sem,c0,c1,c2,c3,c4,c5,c6]) rfl ⟨_,F',rfl,hX,hP⟩
theorem sw1_CT (n:Int) (t:Tr Int) (F:Nat → Prop) (fn:Value) (B1 B2:Nat) (w:World) (k1:w.heap[B1]? = some (.cells #[fn] 145 (0,0))) (k2:w.heap[B2]? = some (.cells #[.int .i64 n] 3 (0,0))) (hA:AT t F fn w) (hF:Bnd F w) :
  CT kB kI (sw1T n t) (fun j => F j ∨ j = B1 ∨ j = B2) (.func (.func 218) #[] #[.pointer (some ⟨B1,0,none⟩),.pointer (some ⟨B2,0,none⟩)]) w:=by
 obtain ⟨g,caps,rfl,he,hc⟩:=hA
 refine ⟨_,_,rfl,enters_of Tryz.func218 (by kernel_rfl) rfl,fun b w' ha => ?_⟩
 have hFw:Agr F w w':=ha.sub fun j h => .inl h
 have bF:Bnd F w':=hF.agr hFw
 exact (sw1_PT b n t F g caps B1 B2 w' ((ha B1 (.inr (.inl rfl))).trans k1) ((ha B2 (.inr (.inr rfl))).trans k2) he (fun W hW => hc W (hFw.trans (Agr.of_ext hW bF))) bF).mono fun _ _ h => h.mono fun j h => .inl h
theorem swap_PT (p:Pl) (h x:BitVec 64) (n:Int) (t:Tr Int) (F:Nat → Prop) (fn:Value) (w:World) (hA:AT t F fn w) (hF:Bnd F w) :
  Calls Tryz.prog 143 #[plV p,.int .u64 (U h),.int .u64 (U x),.int .i64 n,fn] w (RetP (PT kI (swT p h x n t)) F w):=by
 obtain ⟨g,caps,rfl,hg,hc⟩:=id hA
 clear hg hc
 replace hA:=Lib.hid hA
 go_enter Tryz.func143,Tryz.ntmps143
 go_wp2_with (go_at_call 91;refine Hid.out ?_)
 refine Lib.hid ?_
 have ⟨hE,hb0,hb1,hb2,hb3,hW⟩:=al4 w (.cells #[.int .i64 p.n,.int .i64 p.t,.int .i64 p.r,.int .i64 p.d,.int .i64 p.b,.int .i64 p.g] 23) (.cells #[.int .i64 n] 3) (.cells #[.func (.func g) #[] caps] 145) (.cells #[.int .i64 0,.int .i64 0,.int .i64 0,.int .u64 0,.int .u64 0,.nilFunc,.pointer none] 62)
 generalize ((((w.alloc (.cells #[.int .i64 p.n,.int .i64 p.t,.int .i64 p.r,.int .i64 p.d,.int .i64 p.b,.int .i64 p.g] 23)).alloc (.cells #[.int .i64 n] 3)).alloc (.cells #[.func (.func g) #[] caps] 145)).alloc (.cells #[.int .i64 0,.int .i64 0,.int .i64 0,.int .u64 0,.int .u64 0,.nilFunc,.pointer none] 62)) = W at hE hb0 hb1 hb2 hb3 hW ⊢
 refine (head_any p W).mono ?_
 rintro e w1 ⟨rfl,hx⟩
 replace hE:=ext_trans hE hx
 replace hb1:=(hx.block _ (heap_lt hb1)).trans hb1
 replace hb2:=(hx.block _ (heap_lt hb2)).trans hb2
 replace hb3:=(hx.block _ (heap_lt hb3)).trans hb3
 clear hx hb0 hW
 replace hE:=Lib.hid hE
 replace hb1:=Lib.hid hb1
 replace hb2:=Lib.hid hb2
 replace hb3:=Lib.hid hb3
 go_wp2_with (go_at_call 217;refine Hid.out ?_)
 refine Lib.hid ?_
 refine (fol_any h x _).mono ?_
 rintro e w2 ⟨rfl,hx⟩
 replace hE:=hE.out
 replace hb1:=hb1.out
 replace hb2:=hb2.out
 replace hb3:=hb3.out
 replace hE:=ext_trans hE hx
 replace hb1:=(hx.block _ (heap_lt hb1)).trans hb1
 replace hb2:=(hx.block _ (heap_lt hb2)).trans hb2
 replace hb3:=(hx.block _ (heap_lt hb3)).trans hb3
 clear hx
 replace hE:=Lib.hid hE
 replace hb1:=Lib.hid hb1
 replace hb2:=Lib.hid hb2
 replace hb3:=Lib.hid hb3
 go_wp2_with (go_at_call 130;refine Hid.out ?_)
 refine Lib.hid ?_
 refine (try_PT p.headF h (folW h x) w2).mono ?_
 rintro e w3 ⟨v1,F1,rfl,hx,hp1,hbn1,hsub⟩
 replace hE:=hE.out
 replace hb1:=hb1.out
 replace hb2:=hb2.out
 replace hb3:=hb3.out
 have hn1:¬ F1 (w.heap.size+1+1+1):=fun h => (hsub _ h).elim (fun h => h) fun h => by have:=heap_lt hb3;omega
 have hs1:∀ j,F1 j → noF j ∨ w.heap.size ≤ j:=fun j hj => (hsub j hj).imp_right fun h => Nat.le_trans hE.size h
 replace hE:=ext_trans hE hx
 replace hb1:=(hx.block _ (heap_lt hb1)).trans hb1
 replace hb2:=(hx.block _ (heap_lt hb2)).trans hb2
 replace hb3:=(hx.block _ (heap_lt hb3)).trans hb3
 clear hx hsub
 replace hE:=Lib.hid hE
 replace hb1:=Lib.hid hb1
 replace hb2:=Lib.hid hb2
 replace hb3:=Lib.hid hb3
 replace hp1:=Lib.hid hp1
 replace hbn1:=Lib.hid hbn1
 replace hs1:=Lib.hid hs1
 replace hn1:=Lib.hid hn1
 go_wp2_with (go_at_call 216;refine Hid.out ?_)
 refine Lib.hid ?_
 replace hE:=hE.out
 replace hb1:=hb1.out
 replace hb2:=hb2.out
 replace hb3:=hb3.out
 replace hp1:=hp1.out
 replace hbn1:=hbn1.out
 replace hs1:=hs1.out
 replace hn1:=hn1.out
 have hCT:=sw1_CT n t F (.func (.func g) #[] caps) (w.heap.size+1+1) (w.heap.size+1) w3 hb2 hb1 (hA.out.agr (Agr.of_ext hE hF)) (hF.ext hE.size)
 refine (then_BI _ _ F1 _ v1 _ w3 hp1 hCT hbn1 (fun j h => by rcases h with h | rfl | rfl;exact Nat.lt_of_lt_of_le (hF j h) hE.size;exact heap_lt hb2;exact heap_lt hb1)).mono ?_
 rintro e w' hR
 obtain ⟨v',F',rfl,hX,hp,hbn,hsub,hnF,hbq⟩:=hR.tail (G:=F) (w.heap.size+1+1+1) hE (heap_lt hb3) (fun h => by rcases h with h | h | h | h;exact hn1 h;(have:=hF _ h;omega);omega;omega) (fun j h => by rcases h with h | h | h | h;exact (hs1 j h).imp_left False.elim;exact .inl h;exact .inr (by omega);exact .inr (by omega))
 have hbx:=hbq.trans hb3
 clear hbq hR
 clear hE hb1 hb2 hb3 hp1 hbn1 hs1 hn1 hCT
 obtain ⟨y,a2,fn2,rfl,HFN,HX⟩:=tlI hp hX hbx hbn hsub hnF (by omega)
 obtain ⟨c0,c1,c2,c3,c4,c5,c6,cz,ll⟩:=sev_of hbx
 clear hX hbx hp hbn hsub hnF
 rcases HFN.out with rfl | ⟨g',caps',rfl⟩
 all_goals
  go_wp2
  clear c0 c1 c2 c3 c4 c5 c6 cz ll
  obtain ⟨hX,hB,hP⟩:=HX.out
  clear HX
  generalize (World.setCell _ (⟨w.heap.size+1+1+1,6,none⟩ : Addr) _) = Z at hX hB hP ⊢
  obtain ⟨c0,c1,c2,c3,c4,c5,c6,cz,ll⟩:=sev_of hB
  exact bodyPost_ret (by simp only [results,Tryz.results143,go_sem];simp [go_sem,c0,c1,c2,c3,c4,c5,c6]) rfl ⟨_,F',rfl,hX,hP⟩
theorem pop3_PT (p:Pl) (t:Tr Int) (B1:Nat) (w:World) (hB:PBox B1 p w) (hN:∀ W,Calls Tryz.prog 65 #[plV p] W (RetP (PT kI t) noF W)) :
  Calls Tryz.prog 144 #[.pointer (some ⟨B1,0,none⟩)] w (RetP (PT kI t) noF w):=by
 have ⟨c0,c1,c2,c3,c4,c5,lt⟩:=hB.plc
 replace hB:=Lib.hid hB
 replace hN:=Lib.hid hN
 go_enter Tryz.func144,Tryz.ntmps144
 go_wp2_with (go_at_call 65;refine Hid.out ?_)
 refine Lib.hid ?_
 have ⟨hE,hb0,hW⟩:=al1 w (.cells #[.int .i64 0,.int .i64 0,.int .i64 0,.int .u64 0,.int .u64 0,.nilFunc,.pointer none] 62)
 generalize (w.alloc (.cells #[.int .i64 0,.int .i64 0,.int .i64 0,.int .u64 0,.int .u64 0,.nilFunc,.pointer none] 62)) = W at hE hb0 hW ⊢
 refine (hN.out W).mono ?_
 rintro e w' hR
 obtain ⟨v',F',rfl,hX,hp,hbn,hsub,hnF,hbq⟩:=hR.tail (G:=noF) (w.heap.size) hE (heap_lt hb0) (fun h => h) (fun _ h => h.elim)
 have hbx:=hbq.trans hb0
 clear hbq hR
 clear hE hb0 hW c0 c1 c2 c3 c4 c5 lt hN hB
 obtain ⟨y,a2,fn2,rfl,HFN,HX⟩:=tlI hp hX hbx hbn hsub hnF (by omega)
 obtain ⟨c0,c1,c2,c3,c4,c5,c6,cz,ll⟩:=sev_of hbx
 clear hX hbx hp hbn hsub hnF
 rcases HFN.out with rfl | ⟨g',caps',rfl⟩
 all_goals
  go_wp2
  clear c0 c1 c2 c3 c4 c5 c6 cz ll
  obtain ⟨hX,hB,hP⟩:=HX.out
  clear HX
  generalize (World.setCell _ (⟨w.heap.size,6,none⟩ : Addr) _) = Z at hX hB hP ⊢
  obtain ⟨c0,c1,c2,c3,c4,c5,c6,cz,ll⟩:=sev_of hB
  exact bodyPost_ret (by simp only [results,Tryz.results144,go_sem];simp [go_sem,c0,c1,c2,c3,c4,c5,c6]) rfl ⟨_,F',rfl,hX,hP⟩
theorem pop3_AT (p:Pl) (t:Tr Int) (B1:Nat) (w:World) (hB:PBox B1 p w) (hN:∀ W,Calls Tryz.prog 65 #[plV p] W (RetP (PT kI t) noF W)) :
  AT t (fun j => j = B1) (.func (.func 144) #[] #[.pointer (some ⟨B1,0,none⟩)]) w:=
 ⟨_,_,rfl,enters_of Tryz.func144 (by kernel_rfl) rfl,fun w' ha => (pop3_PT p t B1 w' ((ha B1 rfl).trans hB) hN).mono fun _ _ h => h.mono fun _ h => h.elim⟩
theorem pop2_PT (p:Pl) (h x:BitVec 64) (n:Int) (t:Tr Int) (B1 B2 B3:Nat) (w:World) (hB:PBox B1 p w) (k2:w.heap[B2]? = some (.cells #[.int .u64 (U h)] 40 (0,0))) (k3:w.heap[B3]? = some (.cells #[.int .i64 n] 3 (0,0))) (hN:∀ W,Calls Tryz.prog 65 #[plV p] W (RetP (PT kI t) noF W)) :
  Calls Tryz.prog 142 #[.int .u64 (U x),.pointer (some ⟨B1,0,none⟩),.pointer (some ⟨B2,0,none⟩),.pointer (some ⟨B3,0,none⟩)] w (RetP (PT kI (swT p h x n t)) (fun j => j = B1) w):=by
 have d2:=cell_at (o:=0) k2 rfl
 have d3:=cell_at (o:=0) k3 rfl
 have l2:=cell_lt d2
 have l3:=cell_lt d3
 have ⟨c0,c1,c2,c3,c4,c5,lt⟩:=hB.plc
 clear k2 k3
 replace hB:=Lib.hid hB
 replace hN:=Lib.hid hN
 go_enter Tryz.func142,Tryz.ntmps142
 go_wp2_with (go_at_call 143;refine Hid.out ?_)
 refine Lib.hid ?_
 have ⟨hE,hb0,hW⟩:=al1 w (.cells #[.int .i64 0,.int .i64 0,.int .i64 0,.int .u64 0,.int .u64 0,.nilFunc,.pointer none] 62)
 generalize (w.alloc (.cells #[.int .i64 0,.int .i64 0,.int .i64 0,.int .u64 0,.int .u64 0,.nilFunc,.pointer none] 62)) = W at hE hb0 hW ⊢
 have hBW:=hB.out.ext hE
 refine (swap_PT p h x n t (fun j => j = B1) _ W (pop3_AT p t B1 W hBW hN.out) (fun j h => by subst h;exact heap_lt hBW)).mono ?_
 rintro e w' hR
 obtain ⟨v',F',rfl,hX,hp,hbn,hsub,hnF,hbq⟩:=hR.tail (G:=(fun j => j = B1)) (w.heap.size) hE (heap_lt hb0) (fun h => by omega) (fun _ h => .inl h)
 have hbx:=hbq.trans hb0
 clear hbq hR
 clear hE hb0 hW c0 c1 c2 c3 c4 c5 lt hN hB hBW d2 d3 l2 l3
 obtain ⟨y,a2,fn2,rfl,HFN,HX⟩:=tlI hp hX hbx hbn hsub hnF (by omega)
 obtain ⟨c0,c1,c2,c3,c4,c5,c6,cz,ll⟩:=sev_of hbx
 clear hX hbx hp hbn hsub hnF
 rcases HFN.out with rfl | ⟨g',caps',rfl⟩
 all_goals
  go_wp2
  clear c0 c1 c2 c3 c4 c5 c6 cz ll
  obtain ⟨hX,hB,hP⟩:=HX.out
  clear HX
  generalize (World.setCell _ (⟨w.heap.size,6,none⟩ : Addr) _) = Z at hX hB hP ⊢
  obtain ⟨c0,c1,c2,c3,c4,c5,c6,cz,ll⟩:=sev_of hB
  exact bodyPost_ret (by simp only [results,Tryz.results142,go_sem];simp [go_sem,c0,c1,c2,c3,c4,c5,c6]) rfl ⟨_,F',rfl,hX,hP⟩
theorem pop2_CT (p:Pl) (h:BitVec 64) (n:Int) (t:Tr Int) (B1 B2 B3:Nat) (w:World) (hB:PBox B1 p w) (k2:w.heap[B2]? = some (.cells #[.int .u64 (U h)] 40 (0,0))) (k3:w.heap[B3]? = some (.cells #[.int .i64 n] 3 (0,0))) (hN:∀ W,Calls Tryz.prog 65 #[plV p] W (RetP (PT kI t) noF W)) :
  CT kU kI (fun nx => swT p h nx n t) (fun j => j = B1 ∨ j = B2 ∨ j = B3) (.func (.func 142) #[] #[.pointer (some ⟨B1,0,none⟩),.pointer (some ⟨B2,0,none⟩),.pointer (some ⟨B3,0,none⟩)]) w:=
 ⟨_,_,rfl,enters_of Tryz.func142 (by kernel_rfl) rfl,fun x w' ha => (pop2_PT p h x n t B1 B2 B3 w' ((ha B1 (.inl rfl)).trans hB) ((ha B2 (.inr (.inl rfl))).trans k2) ((ha B3 (.inr (.inr rfl))).trans k3) hN).mono fun _ _ h => h.mono fun _ h => .inl h⟩
theorem pop1_PT (p:Pl) (h:BitVec 64) (t:Tr Int) (B1:Nat) (w:World) (hB:PBox B1 p w) (hN:∀ W,Calls Tryz.prog 65 #[plV p] W (RetP (PT kI t) noF W)) :
  Calls Tryz.prog 140 #[.int .u64 (U h),.pointer (some ⟨B1,0,none⟩)] w (RetP (PT kI (pop1T p t h)) (fun j => j = B1) w):=by
 have hlt:=heap_lt hB
 obtain ⟨T,hT⟩ : ∃ T,Hid (pop1T p t h = T):=⟨_,Lib.hid rfl⟩
 rw [hT.out]
 replace hB:=Lib.hid hB
 replace hN:=Lib.hid hN
 go_enter Tryz.func140,Tryz.ntmps140
 go_wp2
 have ⟨hE,hb0,hb1,hW⟩:=al2 w (.cells #[.int .u64 (U h)] 40) (.cells #[.int .i64 0,.int .i64 0,.int .i64 0,.int .u64 0,.int .u64 0,.nilFunc,.pointer none] 62)
 generalize ((w.alloc (.cells #[.int .u64 (U h)] 40)).alloc (.cells #[.int .i64 0,.int .i64 0,.int .i64 0,.int .u64 0,.int .u64 0,.nilFunc,.pointer none] 62)) = W at hE hb0 hb1 hW ⊢
 have g0:=cell_at (o:=0) hb0 rfl
 have gl:=cell_lt g0
 replace hE:=Lib.hid hE
 replace hb0:=Lib.hid hb0
 replace hb1:=Lib.hid hb1
 replace hW:=Lib.hid hW
 refine wp_region_over (by kernel_rfl) (by kernel_rfl) ?_
 repeat (go_big_quiet_step (first | (go_at_call 89;exact over_call (nodeField_any _)) | (go_at_call 90;exact over_call (getNd_any h _))))
 refine wpQuiet_nil ?_
 intro _ hw'
 obtain ⟨s1,hw''⟩:=hw'
 subst hw''
 replace hE:=hE.out
 replace hb0:=hb0.out
 replace hb1:=hb1.out
 replace hW:=hW.out
 replace hE:=ext_over s1 hE
 replace hb0:=((over_below W s1).block _ (heap_lt hb0)).trans hb0
 replace hb1:=((over_below W s1).block _ (heap_lt hb1)).trans hb1
 clear g0 gl hW
 generalize over W s1 = w1 at hE hb0 hb1 ⊢
 by_cases hz:ndW h = 0#64
 ·have hz':U (ndW h) = 0:=by rw [hz,U_0]
  have hT':T = .done (-1):=by rw [← hT.out];unfold pop1T;rw [if_pos hz]
  subst hT'
  clear hz hT
  replace hE:=Lib.hid hE
  replace hb0:=Lib.hid hb0
  replace hb1:=Lib.hid hb1
  go_wp2_with (go_at_call 141;refine Hid.out ?_)
  refine Lib.hid ?_
  replace hE:=hE.out
  replace hb0:=hb0.out
  replace hb1:=hb1.out
  refine (doneI_PT (-1) w1).mono ?_
  rintro e w' hR
  obtain ⟨v',F',rfl,hX,hp,hbn,hsub,hnF,hbq⟩:=hR.tail (G:=(fun j => j = B1)) (w.heap.size+1) hE (heap_lt hb1) (fun h => h) (fun _ h => h.elim)
  have hbx:=hbq.trans hb1
  clear hbq hR
  clear hE hb0 hb1 hN hB hz'
  obtain ⟨y,a2,fn2,rfl,HFN,HX⟩:=tlI hp hX hbx hbn hsub hnF (by omega)
  obtain ⟨c0,c1,c2,c3,c4,c5,c6,cz,ll⟩:=sev_of hbx
  clear hX hbx hp hbn hsub hnF
  rcases HFN.out with rfl | ⟨g',caps',rfl⟩
  all_goals
   go_wp2
   clear c0 c1 c2 c3 c4 c5 c6 cz ll
   obtain ⟨hX,hB,hP⟩:=HX.out
   clear HX
   generalize (World.setCell _ (⟨w.heap.size+1,6,none⟩ : Addr) _) = Z at hX hB hP ⊢
   obtain ⟨c0,c1,c2,c3,c4,c5,c6,cz,ll⟩:=sev_of hB
   exact bodyPost_ret (by simp only [results,Tryz.results140,go_sem];simp [go_sem,c0,c1,c2,c3,c4,c5,c6]) rfl ⟨_,F',rfl,hX,hP⟩
 ·have hz':U (ndW h) ≠ 0:=fun e => hz (U_inj (e.trans U_0.symm))
  obtain ⟨n,hn⟩ : ∃ n,Hid (nodeI (ndW h) = n):=⟨_,Lib.hid rfl⟩
  have hT':T = (getT (p.nxF n)).bind fun nx => swT p h nx n t:=by rw [← hT.out,← hn.out];unfold pop1T;rw [if_neg hz]
  subst hT'
  have hz2:=Lib.hid hz
  clear hz hT
  replace hE:=Lib.hid hE
  replace hb0:=Lib.hid hb0
  replace hb1:=Lib.hid hb1
  go_wp2_with (go_at_call 93;refine Hid.out ?_)
  refine Lib.hid ?_
  refine (node_PT (ndW h) hz2.out (by have:=ndW_lt h;omega) _).mono ?_
  rintro e w2 ⟨rfl,hx⟩
  replace hE:=hE.out
  replace hb0:=hb0.out
  replace hb1:=hb1.out
  replace hE:=ext_trans hE hx
  replace hb0:=(hx.block _ (heap_lt hb0)).trans hb0
  replace hb1:=(hx.block _ (heap_lt hb1)).trans hb1
  clear hx
  have hBw:=hB.out.ext hE
  rw [hn.out]
  have ⟨c0,c1,c2,c3,c4,c5,lt⟩:=hBw.plc
  replace hE:=Lib.hid hE
  replace hb0:=Lib.hid hb0
  replace hb1:=Lib.hid hb1
  replace hBw:=Lib.hid hBw
  go_wp2_with (go_at_call 94;refine Hid.out ?_)
  refine Lib.hid ?_
  replace hE:=hE.out
  replace hb0:=hb0.out
  replace hb1:=hb1.out
  replace hBw:=hBw.out
  have hx:Ext w2 (w2.alloc (.cells #[.int .i64 n] 3)):=ext_alloc _ (ext_refl w2)
  have hb3:(w2.alloc (.cells #[.int .i64 n] 3)).heap[w2.heap.size]? = some (.cells #[.int .i64 n] 3):=heap_at _ _ _ rfl
  generalize w2.alloc (.cells #[.int .i64 n] 3) = w3 at hx hb3 ⊢
  have hsz2:=hE.size
  have hsz3:=heap_lt hb1
  replace hE:=ext_trans hE hx
  replace hb0:=(hx.block _ (heap_lt hb0)).trans hb0
  replace hb1:=(hx.block _ (heap_lt hb1)).trans hb1
  replace hBw:=hBw.ext hx
  clear hx c0 c1 c2 c3 c4 c5 lt
  refine (next_any p n w3).mono ?_
  rintro e w4 ⟨rfl,hx⟩
  replace hE:=ext_trans hE hx
  replace hb0:=(hx.block _ (heap_lt hb0)).trans hb0
  replace hb1:=(hx.block _ (heap_lt hb1)).trans hb1
  replace hb3:=(hx.block _ (heap_lt hb3)).trans hb3
  replace hBw:=hBw.ext hx
  clear hx
  replace hE:=Lib.hid hE
  replace hb0:=Lib.hid hb0
  replace hb1:=Lib.hid hb1
  replace hb3:=Lib.hid hb3
  replace hBw:=Lib.hid hBw
  go_wp2_with (go_at_call 117;refine Hid.out ?_)
  refine Lib.hid ?_
  refine (get_PT (p.nxF n) w4).mono ?_
  rintro e w5 ⟨v1,F1,rfl,hx,hp1,hbn1,hsub⟩
  replace hE:=hE.out
  replace hb0:=hb0.out
  replace hb1:=hb1.out
  replace hb3:=hb3.out
  replace hBw:=hBw.out
  have hn1:¬ F1 (w.heap.size+1):=fun h => (hsub _ h).elim (fun h => h) fun h => by have:=heap_lt hb1;omega
  have hs1:∀ j,F1 j → noF j ∨ w.heap.size ≤ j:=fun j hj => (hsub j hj).imp_right fun h => Nat.le_trans hE.size h
  replace hE:=ext_trans hE hx
  replace hb0:=(hx.block _ (heap_lt hb0)).trans hb0
  replace hb1:=(hx.block _ (heap_lt hb1)).trans hb1
  replace hb3:=(hx.block _ (heap_lt hb3)).trans hb3
  replace hBw:=(hx.block _ (heap_lt hBw)).trans hBw
  clear hx hsub
  replace hE:=Lib.hid hE
  replace hb0:=Lib.hid hb0
  replace hb1:=Lib.hid hb1
  replace hb3:=Lib.hid hb3
  replace hBw:=Lib.hid hBw
  replace hp1:=Lib.hid hp1
  replace hbn1:=Lib.hid hbn1
  replace hs1:=Lib.hid hs1
  replace hn1:=Lib.hid hn1
  go_wp2_with (go_at_call 139;refine Hid.out ?_)
  refine Lib.hid ?_
  replace hE:=hE.out
  replace hb0:=hb0.out
  replace hb1:=hb1.out
  replace hb3:=hb3.out
  replace hBw:=hBw.out
  replace hp1:=hp1.out
  replace hbn1:=hbn1.out
  replace hs1:=hs1.out
  replace hn1:=hn1.out
  have hCT:=pop2_CT p h n t B1 w.heap.size w2.heap.size w5 hBw hb0 hb3 hN.out
  refine (then_UI _ _ F1 _ v1 _ w5 hp1 hCT hbn1 (fun j h => by rcases h with rfl | rfl | rfl;exact heap_lt hBw;exact heap_lt hb0;exact heap_lt hb3)).mono ?_
  rintro e w' hR
  obtain ⟨v',F',rfl,hX,hp,hbn,hsub,hnF,hbq⟩:=hR.tail (G:=(fun j => j = B1)) (w.heap.size+1) hE (heap_lt hb1) (fun h => by rcases h with h | h | h | h;exact hn1 h;omega;omega;omega) (fun j h => by rcases h with h | h | h | h;exact (hs1 j h).imp_left False.elim;exact .inl h;exact .inr (by omega);exact .inr (by omega))
  have hbx:=hbq.trans hb1
  clear hbq hR
  clear hE hb0 hb1 hb3 hBw hp1 hbn1 hs1 hn1 hCT hN hB
  obtain ⟨y,a2,fn2,rfl,HFN,HX⟩:=tlI hp hX hbx hbn hsub hnF (by omega)
  obtain ⟨c0,c1,c2,c3,c4,c5,c6,cz,ll⟩:=sev_of hbx
  clear hX hbx hp hbn hsub hnF
  rcases HFN.out with rfl | ⟨g',caps',rfl⟩
  all_goals
   go_wp2
   clear c0 c1 c2 c3 c4 c5 c6 cz ll
   obtain ⟨hX,hB,hP⟩:=HX.out
   clear HX
   generalize (World.setCell _ (⟨w.heap.size+1,6,none⟩ : Addr) _) = Z at hX hB hP ⊢
   obtain ⟨c0,c1,c2,c3,c4,c5,c6,cz,ll⟩:=sev_of hB
   exact bodyPost_ret (by simp only [results,Tryz.results140,go_sem];simp [go_sem,c0,c1,c2,c3,c4,c5,c6]) rfl ⟨_,F',rfl,hX,hP⟩
theorem pop1_CT (p:Pl) (t:Tr Int) (B1:Nat) (w:World) (hB:PBox B1 p w) (hN:∀ W,Calls Tryz.prog 65 #[plV p] W (RetP (PT kI t) noF W)) :
  CT kU kI (pop1T p t) (fun j => j = B1) (.func (.func 140) #[] #[.pointer (some ⟨B1,0,none⟩)]) w:=
 ⟨_,_,rfl,enters_of Tryz.func140 (by kernel_rfl) rfl,fun h w' ha => pop1_PT p h t B1 w' ((ha B1 rfl).trans hB) hN⟩
theorem popW (p:Pl) (t:Tr Int) (w:World) (hN:∀ v F B W,PBox B p W → PT kU (getT p.headF) F v W → Bnd F W → Calls Tryz.prog 139 #[v,.func (.func 140) #[] #[.pointer (some ⟨B,0,none⟩)]] W (RetP (PT kI t) (fun j => F j ∨ j = B) W)) :
  Calls Tryz.prog 65 #[plV p] w (RetP (PT kI t) noF w):=by
 replace hN:=Lib.hid hN
 go_enter Tryz.func65,Tryz.ntmps65
 go_wp2_with (go_at_call 91;refine Hid.out ?_)
 refine Lib.hid ?_
 have ⟨hE,hb0,hb1,hW⟩:=al2 w (.cells #[.int .i64 p.n,.int .i64 p.t,.int .i64 p.r,.int .i64 p.d,.int .i64 p.b,.int .i64 p.g] 23) (.cells #[.int .i64 0,.int .i64 0,.int .i64 0,.int .u64 0,.int .u64 0,.nilFunc,.pointer none] 62)
 generalize ((w.alloc (.cells #[.int .i64 p.n,.int .i64 p.t,.int .i64 p.r,.int .i64 p.d,.int .i64 p.b,.int .i64 p.g] 23)).alloc (.cells #[.int .i64 0,.int .i64 0,.int .i64 0,.int .u64 0,.int .u64 0,.nilFunc,.pointer none] 62)) = W at hE hb0 hb1 hW ⊢
 refine (head_any p W).mono ?_
 rintro e w1 ⟨rfl,hx⟩
 replace hE:=ext_trans hE hx
 replace hb0:=(hx.block _ (heap_lt hb0)).trans hb0
 replace hb1:=(hx.block _ (heap_lt hb1)).trans hb1
 clear hx hW
 replace hE:=Lib.hid hE
 replace hb0:=Lib.hid hb0
 replace hb1:=Lib.hid hb1
 go_wp2_with (go_at_call 117;refine Hid.out ?_)
 refine Lib.hid ?_
 refine (get_PT p.headF w1).mono ?_
 rintro e w2 ⟨v1,F1,rfl,hx,hp1,hbn1,hsub⟩
 replace hE:=hE.out
 replace hb0:=hb0.out
 replace hb1:=hb1.out
 have hn1:¬ F1 (w.heap.size+1):=fun h => (hsub _ h).elim (fun h => h) fun h => by have:=heap_lt hb1;omega
 have hs1:∀ j,F1 j → noF j ∨ w.heap.size ≤ j:=fun j hj => (hsub j hj).imp_right fun h => Nat.le_trans hE.size h
 replace hE:=ext_trans hE hx
 replace hb0:=(hx.block _ (heap_lt hb0)).trans hb0
 replace hb1:=(hx.block _ (heap_lt hb1)).trans hb1
 clear hx hsub
 replace hE:=Lib.hid hE
 replace hb0:=Lib.hid hb0
 replace hb1:=Lib.hid hb1
 replace hp1:=Lib.hid hp1
 replace hbn1:=Lib.hid hbn1
 replace hs1:=Lib.hid hs1
 replace hn1:=Lib.hid hn1
 go_wp2_with (go_at_call 139;refine Hid.out ?_)
 refine Lib.hid ?_
 replace hE:=hE.out
 replace hb0:=hb0.out
 replace hb1:=hb1.out
 replace hp1:=hp1.out
 replace hbn1:=hbn1.out
 replace hs1:=hs1.out
 replace hn1:=hn1.out
 refine (hN.out v1 F1 w.heap.size w2 hb0 hp1 hbn1).mono ?_
 rintro e w' hR
 obtain ⟨v',F',rfl,hX,hp,hbn,hsub,hnF,hbq⟩:=hR.tail (G:=noF) (w.heap.size+1) hE (heap_lt hb1) (fun h => by rcases h with h | h;exact hn1 h;omega) (fun j h => by rcases h with h | h;exact hs1 j h;exact .inr (by omega))
 have hbx:=hbq.trans hb1
 clear hbq hR
 clear hE hb0 hb1 hp1 hbn1 hs1 hn1 hN
 obtain ⟨y,a2,fn2,rfl,HFN,HX⟩:=tlI hp hX hbx hbn hsub hnF (by omega)
 obtain ⟨c0,c1,c2,c3,c4,c5,c6,cz,ll⟩:=sev_of hbx
 clear hX hbx hp hbn hsub hnF
 rcases HFN.out with rfl | ⟨g',caps',rfl⟩
 all_goals
  go_wp2
  clear c0 c1 c2 c3 c4 c5 c6 cz ll
  obtain ⟨hX,hB,hP⟩:=HX.out
  clear HX
  generalize (World.setCell _ (⟨w.heap.size+1,6,none⟩ : Addr) _) = Z at hX hB hP ⊢
  obtain ⟨c0,c1,c2,c3,c4,c5,c6,cz,ll⟩:=sev_of hB
  exact bodyPost_ret (by simp only [results,Tryz.results65,go_sem];simp [go_sem,c0,c1,c2,c3,c4,c5,c6]) rfl ⟨_,F',rfl,hX,hP⟩
theorem pop_PT (p:Pl):∀ (N:Nat) (w:World),Calls Tryz.prog 65 #[plV p] w (RetP (PT kI (popT p N)) noF w)
 | 0,w => popW p _ w fun v F B W hB hp hb => (thenM_UI F v _ _ W hp.more).mono fun _ _ h => h.mono fun _ h => h.elim
 | N+1,w => popW p _ w fun v F B W hB hp hb => then_UI _ _ F _ v _ W hp (pop1_CT p (popT p N) B W hB fun W => pop_PT p N W) hb (fun j h => by subst h;exact heap_lt hB)
end Go.Proofs.YthjklbonebnekaaGreat

