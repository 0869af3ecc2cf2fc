/-
  What the calls of nameOf, named, counted, putCount and Put come to. Conditions: those of each theorem.
-/
import Derived.Test.YthjklbonebnekaaGreatGao
import Derived.Test.YthjklbonebnekaaGreatGar
import Derived.Test.YthjklbonebnekaaGreatGas
set_option maxRecDepth 8000
set_option maxHeartbeats 4000000
namespace Go.Proofs.YthjklbonebnekaaGreat
open Go Go.RowKit
theorem rset_at (at_:Int) (x:BitVec 64) (y:Int) (w:World) (h:y = U x):Calls Tryz.prog 120 #[.int .i64 at_,.int .u64 y] w (RetP (PT kN (setT at_ x)) noF w):=h ▸ set_PT at_ x w
theorem rnm_any (n:Int) (h0:0 ≤ n) (h1:n < 4611686018427387904) (w:World):Calls Tryz.prog 228 #[.int .i64 n] w (Ret (.int .u64 (U (nameW n))) w):=by
 rw [U_nameW h0 h1]
 go_enter Tryz.func228,Tryz.ntmps228
 go_wp2
 go_ret
 exact Ret.int (by first | rfl | omega | (simp;omega)) (by repeat (first | exact ext_refl _ | apply ext_alloc))
theorem rnmd_is (p:Pl) (hp:p.ok) (x:BitVec 64) (r:Int) (hr:Hid (nmdR p x = r)) (w:World):Calls Tryz.prog 97 #[plV p,.int .u64 (U x)] w (Ret (.int .i64 r) w):=by
 have h0:=U_nonneg x
 have hl:=U_lt x
 have hn:1 ≤ p.n ∧ p.n ≤ 1048576:=hp.1
 have er:=hr.out
 unfold nmdR at er
 clear hr
 by_cases hz:U x = 0
 ·rw [if_pos (.inl hz)] at er
  subst er
  have hz':U x = 0:=hz
  go_enter Tryz.func97,Tryz.ntmps97
  go_wp2
  go_ret
  exact Ret.mk (by repeat (first | exact ext_refl _ | apply ext_alloc))
 ·by_cases hy:p.n < U x
  ·rw [if_pos (.inr hy)] at er
   subst er
   have hw:IntKind.u64.wrap p.n = p.n:=by show p.n % 18446744073709551616 = p.n;omega
   go_enter Tryz.func97,Tryz.ntmps97
   go_wp2
   go_ret
   exact Ret.mk (by repeat (first | exact ext_refl _ | apply ext_alloc))
  ·rw [if_neg (by omega)] at er
   have hw:IntKind.u64.wrap p.n = p.n:=by show p.n % 18446744073709551616 = p.n;omega
   have hw2:IntKind.u64.wrap (U x - 1) = r:=by show (U x - 1) % 18446744073709551616 = r;omega
   have hw3:wrap64 r = r:=by unfold wrap64;omega
   go_enter Tryz.func97,Tryz.ntmps97
   go_wp2
   go_ret
   exact Ret.int (by first | exact er | rfl | omega | (simp;omega)) (by repeat (first | exact ext_refl _ | apply ext_alloc))
theorem rcnt_is (p:Pl) (hp:p.ok) (x:BitVec 64) (r:Int) (hr:Hid (cntR p x = r)) (w:World):Calls Tryz.prog 95 #[plV p,.int .u64 (U x)] w (Ret (.int .i64 r) w):=by
 have h0:=U_nonneg x
 have hn:4 ≤ p.r ∧ p.r ≤ 1024:=by unfold Pl.ok at hp;omega
 have hw:IntKind.u64.wrap p.r = p.r:=by show p.r % 18446744073709551616 = p.r;omega
 have hmin:∀ ats ty,Builtin.min_ ats ty #[.int .u64 (U x),.int .u64 p.r] = pure (.int .u64 r):=fun ats ty => by
  rw [← hr.out]
  unfold cntR
  rfl
 have hr2:0 ≤ r ∧ r ≤ 1024:=by
  have:=cntR_in hp x
  rw [hr.out] at this
  omega
 have hw2:wrap64 r = r:=by unfold wrap64;omega
 clear hr h0
 go_enter Tryz.func95,Tryz.ntmps95
 go_wp2
 go_ret
 exact Ret.int (by first | rfl | exact hw2 | (simp;omega)) (by repeat (first | exact ext_refl _ | apply ext_alloc))
theorem rpc_PT (p:Pl) (t m:Int) (w:World) (h0:0 ≤ m) (h1:m ≤ 1048576)  :
  Calls Tryz.prog 230 #[plV p,.int .i64 t,.int .i64 m] w (RetP (PT kN (setT (p.cntF t) (cntW m))) noF w):=by
 have eU:=U_cntW h0 (show m < 4611686018427387904 by omega)
 have ew:IntKind.u64.wrap m = m:=by show m % 18446744073709551616 = m;omega
 go_enter Tryz.func230,Tryz.ntmps230
 go_wp2_with (go_at_call 96;refine Hid.out ?_)
 refine Lib.hid ?_
 have ⟨hE,hb0,hb1,hW⟩:=al2 w (.cells #[.int .i64 p.n,.int .i64 p.t,.int .i64 p.r,.int .i64 p.d,.int .i64 p.b,.int .i64 p.g] 23) (.cells #[.int .i64 0,.int .i64 0,.int .u64 0,.int .u64 0,.nilFunc,.pointer none] 137)
 generalize ((w.alloc (.cells #[.int .i64 p.n,.int .i64 p.t,.int .i64 p.r,.int .i64 p.d,.int .i64 p.b,.int .i64 p.g] 23)).alloc (.cells #[.int .i64 0,.int .i64 0,.int .u64 0,.int .u64 0,.nilFunc,.pointer none] 137)) = W at hE hb0 hb1 hW ⊢
 clear hW
 refine (cnt_any p t W).mono ?_
 rintro e w1 ⟨rfl,hx⟩
 replace hE:=ext_trans hE hx
 replace hb0:=(hx.block _ (heap_lt hb0)).trans hb0
 replace hb1:=(hx.block _ (heap_lt hb1)).trans hb1
 clear hx
 replace hE:=Lib.hid hE
 replace hb0:=Lib.hid hb0
 replace hb1:=Lib.hid hb1
 go_wp2_with (go_at_call 120;refine Hid.out ?_)
 refine Lib.hid ?_
 replace hE:=hE.out
 replace hb0:=hb0.out
 replace hb1:=hb1.out
 refine (rset_at (p.cntF t) (cntW m) _ w1 (by first | exact eU.symm | (rw [eU];first | rfl | exact ew | (simp;omega)))).mono ?_
 rintro e w' hR
 obtain ⟨v',F',rfl,hX,hp,hbn,hsub,hnF,hbq⟩:=hR.tail (G:=noF) (w.heap.size+1) hE (heap_lt hb1) (fun h => h) (fun _ h => h.elim)
 have hbx:=hbq.trans hb1
 clear hbq hR
 clear hE hb0 hb1
 obtain ⟨a2,fn2,rfl,HFN,HX⟩:=tlN hp hX hbx hbn hsub hnF (by omega)
 obtain ⟨c0,c1,c2,c3,c4,c5,cz,ll⟩:=six_of hbx
 clear hX hbx hp hbn hsub hnF
 rcases HFN.out with rfl | ⟨g',caps',rfl⟩
 all_goals
  go_wp2
  clear c0 c1 c2 c3 c4 c5 cz ll
  obtain ⟨hX,hB,hP⟩:=HX.out
  clear HX
  generalize (World.setCell _ (⟨w.heap.size+1,5,none⟩ : Addr) _) = Z at hX hB hP ⊢
  obtain ⟨c0,c1,c2,c3,c4,c5,cz,ll⟩:=six_of hB
  exact bodyPost_ret (by simp only [results,Tryz.results230,go_sem];simp [go_sem,c0,c1,c2,c3,c4,c5]) rfl ⟨_,F',rfl,hX,hP⟩
theorem put3_PT (m:Int) (B1:Nat) (w:World) (ew:wrap64 (m+1) = m+1) (k1:w.heap[B1]? = some (.cells #[.int .i64 m] 3 (0,0))) :
  Calls Tryz.prog 231 #[.agg #[],.pointer (some ⟨B1,0,none⟩)] w (RetP (PT kI (.done (m+1))) noF w):=by
 have qk1:=heap_lt k1
 have d1_0:=cell_at (o:=0) k1 rfl
 have e1:=cell_lt d1_0
 replace k1:=Lib.hid k1
 go_enter Tryz.func231,Tryz.ntmps231
 go_wp2_with (go_at_call 141;refine Hid.out ?_)
 refine Lib.hid ?_
 have ⟨hE,hb0,hb1,hW⟩:=al2 w (.cells #[] 132) (.cells #[.int .i64 0,.int .i64 0,.int .i64 0,.int .u64 0,.int .u64 0,.nilFunc,.pointer none] 62)
 generalize ((w.alloc (.cells #[] 132)).alloc (.cells #[.int .i64 0,.int .i64 0,.int .i64 0,.int .u64 0,.int .u64 0,.nilFunc,.pointer none] 62)) = W at hE hb0 hb1 hW ⊢
 replace k1:=(hE.block _ (heap_lt k1.out)).trans k1.out
 clear hW
 clear d1_0 e1
 refine (doneI_PT (m+1) W).mono ?_
 rintro e w' hR
 obtain ⟨v',F',rfl,hX,hp,hbn,hsub,hnF,hbq⟩:=hR.tail (G:=noF) (w.heap.size+1) hE (heap_lt hb1) (fun h => h) (fun _ h => h.elim)
 have hbx:=hbq.trans hb1
 clear hbq hR
 clear hE hb0 hb1 k1
 obtain ⟨y,a2,fn2,rfl,HFN,HX⟩:=tlI hp hX hbx hbn hsub hnF (by omega)
 obtain ⟨c0,c1,c2,c3,c4,c5,c6,cz,ll⟩:=sev_of hbx
 clear hX hbx hp hbn hsub hnF
 rcases HFN.out with rfl | ⟨g',caps',rfl⟩
 all_goals
  go_wp2
  clear c0 c1 c2 c3 c4 c5 c6 cz ll
  obtain ⟨hX,hB,hP⟩:=HX.out
  clear HX
  generalize (World.setCell _ (⟨w.heap.size+1,6,none⟩ : Addr) _) = Z at hX hB hP ⊢
  obtain ⟨c0,c1,c2,c3,c4,c5,c6,cz,ll⟩:=sev_of hB
  exact bodyPost_ret (by simp only [results,Tryz.results231,go_sem];simp [go_sem,c0,c1,c2,c3,c4,c5,c6]) rfl ⟨_,F',rfl,hX,hP⟩
theorem put3_CT (m:Int) (B1:Nat) (w:World) (ew:wrap64 (m+1) = m+1) (k1:w.heap[B1]? = some (.cells #[.int .i64 m] 3 (0,0))) :
  CT kN kI (fun _ => .done (m+1)) (fun j => j = B1) (.func (.func 231) #[] #[.pointer (some ⟨B1,0,none⟩)]) w:=
 ⟨_,_,rfl,enters_of Tryz.func231 (by kernel_rfl) rfl,fun _ w' ha => (put3_PT m  B1 w' ew ((ha B1 (rfl)).trans k1)).mono fun _ _ h => h.mono fun _ h => h.elim⟩
theorem put2_PT (p:Pl) (t m:Int) (B1 B2 B3:Nat) (w:World) (h0:0 ≤ m) (h1:m ≤ 1024) (k1:PBox B1 p w) (k2:w.heap[B2]? = some (.cells #[.int .i64 t] 3 (0,0))) (k3:w.heap[B3]? = some (.cells #[.int .i64 m] 3 (0,0))) :
  Calls Tryz.prog 229 #[.agg #[],.pointer (some ⟨B1,0,none⟩),.pointer (some ⟨B2,0,none⟩),.pointer (some ⟨B3,0,none⟩)] w (RetP (PT kI (put2T p t m)) (fun j => j = B3) w):=by
 have ew:wrap64 (m+1) = m+1:=by unfold wrap64;omega
 have qk1:=heap_lt k1
 have ⟨c0,c1,c2,c3,c4,c5,lt⟩:=PBox.plc k1
 have qk2:=heap_lt k2
 have d2_0:=cell_at (o:=0) k2 rfl
 have e2:=cell_lt d2_0
 have qk3:=heap_lt k3
 have d3_0:=cell_at (o:=0) k3 rfl
 have e3:=cell_lt d3_0
 replace k1:=Lib.hid k1
 replace k2:=Lib.hid k2
 replace k3:=Lib.hid k3
 go_enter Tryz.func229,Tryz.ntmps229
 go_wp2_with (go_at_call 230;refine Hid.out ?_)
 refine Lib.hid ?_
 have ⟨hE,hb0,hb1,hW⟩:=al2 w (.cells #[] 132) (.cells #[.int .i64 0,.int .i64 0,.int .i64 0,.int .u64 0,.int .u64 0,.nilFunc,.pointer none] 62)
 generalize ((w.alloc (.cells #[] 132)).alloc (.cells #[.int .i64 0,.int .i64 0,.int .i64 0,.int .u64 0,.int .u64 0,.nilFunc,.pointer none] 62)) = W at hE hb0 hb1 hW ⊢
 replace k1:=(hE.block _ (heap_lt k1.out)).trans k1.out
 replace k2:=(hE.block _ (heap_lt k2.out)).trans k2.out
 replace k3:=(hE.block _ (heap_lt k3.out)).trans k3.out
 clear hW
 clear c0 c1 c2 c3 c4 c5 lt d2_0 e2 d3_0 e3
 refine (rpc_PT p t (m+1) W (by omega) (by omega)).mono ?_
 rintro e w1 ⟨v1,F1,rfl,hx,hp1,hbn1,hsub⟩
 have hn1:¬ F1 (w.heap.size+1):=fun h => (hsub _ h).elim (fun h => h) fun h => by have:=heap_lt hb1;omega
 have hs1:∀ j,F1 j → noF j ∨ w.heap.size ≤ j:=fun j hj => (hsub j hj).imp_right fun h => Nat.le_trans hE.size h
 replace hE:=ext_trans hE hx
 replace hb0:=(hx.block _ (heap_lt hb0)).trans hb0
 replace hb1:=(hx.block _ (heap_lt hb1)).trans hb1
 replace k1:=(hx.block _ (heap_lt k1)).trans k1
 replace k2:=(hx.block _ (heap_lt k2)).trans k2
 replace k3:=(hx.block _ (heap_lt k3)).trans k3
 clear hx hsub
 replace hE:=Lib.hid hE
 replace hb0:=Lib.hid hb0
 replace hb1:=Lib.hid hb1
 replace k1:=Lib.hid k1
 replace k2:=Lib.hid k2
 replace k3:=Lib.hid k3
 replace hp1:=Lib.hid hp1
 replace hbn1:=Lib.hid hbn1
 replace hs1:=Lib.hid hs1
 replace hn1:=Lib.hid hn1
 go_wp2_with (go_at_call 227;refine Hid.out ?_)
 refine Lib.hid ?_
 replace hE:=hE.out
 replace hb0:=hb0.out
 replace hb1:=hb1.out
 replace k1:=k1.out
 replace k2:=k2.out
 replace k3:=k3.out
 replace hp1:=hp1.out
 replace hbn1:=hbn1.out
 replace hs1:=hs1.out
 replace hn1:=hn1.out
 have hCT:=put3_CT m B3 w1 ew k3
 refine (then_NI _ _ F1 _ v1 _ w1 hp1 hCT hbn1 (fun j h => by subst h;exact heap_lt k3)).mono ?_
 rintro e w' hR
 obtain ⟨v',F',rfl,hX,hp,hbn,hsub,hnF,hbq⟩:=hR.tail (G:=(fun j => j = B3)) (w.heap.size+1) hE (heap_lt hb1) (fun h => by rcases h with h | h;exact hn1 h;omega) (fun j h => by rcases h with h | h;exact (hs1 j h).imp_left False.elim;exact .inl (h))
 have hbx:=hbq.trans hb1
 clear hbq hR
 clear hE hb0 hb1 k1 k2 k3 hp1 hbn1 hs1 hn1 hCT
 obtain ⟨y,a2,fn2,rfl,HFN,HX⟩:=tlI hp hX hbx hbn hsub hnF (by omega)
 obtain ⟨c0,c1,c2,c3,c4,c5,c6,cz,ll⟩:=sev_of hbx
 clear hX hbx hp hbn hsub hnF
 rcases HFN.out with rfl | ⟨g',caps',rfl⟩
 all_goals
  go_wp2
  clear c0 c1 c2 c3 c4 c5 c6 cz ll
  obtain ⟨hX,hB,hP⟩:=HX.out
  clear HX
  generalize (World.setCell _ (⟨w.heap.size+1,6,none⟩ : Addr) _) = Z at hX hB hP ⊢
  obtain ⟨c0,c1,c2,c3,c4,c5,c6,cz,ll⟩:=sev_of hB
  exact bodyPost_ret (by simp only [results,Tryz.results229,go_sem];simp [go_sem,c0,c1,c2,c3,c4,c5,c6]) rfl ⟨_,F',rfl,hX,hP⟩
theorem put2_CT (p:Pl) (t m:Int) (B1 B2 B3:Nat) (w:World) (h0:0 ≤ m) (h1:m ≤ 1024) (k1:PBox B1 p w) (k2:w.heap[B2]? = some (.cells #[.int .i64 t] 3 (0,0))) (k3:w.heap[B3]? = some (.cells #[.int .i64 m] 3 (0,0))) :
  CT kN kI (fun _ => put2T p t m) (fun j => j = B1 ∨ j = B2 ∨ j = B3) (.func (.func 229) #[] #[.pointer (some ⟨B1,0,none⟩),.pointer (some ⟨B2,0,none⟩),.pointer (some ⟨B3,0,none⟩)]) w:=
 ⟨_,_,rfl,enters_of Tryz.func229 (by kernel_rfl) rfl,fun _ w' ha => (put2_PT p t m  B1 B2 B3 w' h0 h1 ((ha B1 (.inl rfl)).trans k1) ((ha B2 (.inr (.inl rfl))).trans k2) ((ha B3 (.inr (.inr rfl))).trans k3)).mono fun _ _ h => h.mono fun _ h => .inr (.inr h)⟩
theorem put1_PT (p:Pl) (t n:Int) (x:BitVec 64) (B1 B2 B3:Nat) (w:World) (hp:p.ok) (hq0:0 ≤ n) (hq1:n < 4611686018427387904) (k1:PBox B1 p w) (k2:w.heap[B2]? = some (.cells #[.int .i64 t] 3 (0,0))) (k3:w.heap[B3]? = some (.cells #[.int .i64 n] 3 (0,0))) :
  Calls Tryz.prog 226 #[.int .u64 (U x),.pointer (some ⟨B1,0,none⟩),.pointer (some ⟨B2,0,none⟩),.pointer (some ⟨B3,0,none⟩)] w (RetP (PT kI (put1T p t n x)) (fun j => j = B1 ∨ j = B2) w):=by
 obtain ⟨m,hm⟩ : ∃ m,Hid (cntR p x = m):=⟨_,Lib.hid rfl⟩
 have hmr:=cntR_in hp x
 rw [hm.out] at hmr
 have hr2:p.r ≤ 1024:=by unfold Pl.ok at hp;omega
 have eT:put1T p t n x = if m = p.r then .done (-1) else (setT (p.retF t m) (nameW n)).bind fun _ => put2T p t m:=by unfold put1T;rw [hm.out]
 rw [eT]
 clear eT
 by_cases hz:m = p.r
 ·subst hz
  rw [if_pos rfl]
  have qk1:=heap_lt k1
  have ⟨c0,c1,c2,c3,c4,c5,lt⟩:=PBox.plc k1
  have qk2:=heap_lt k2
  have d2_0:=cell_at (o:=0) k2 rfl
  have e2:=cell_lt d2_0
  have qk3:=heap_lt k3
  have d3_0:=cell_at (o:=0) k3 rfl
  have e3:=cell_lt d3_0
  replace k1:=Lib.hid k1
  replace k2:=Lib.hid k2
  replace k3:=Lib.hid k3
  go_enter Tryz.func226,Tryz.ntmps226
  go_wp2_with (go_at_call 95;refine Hid.out ?_)
  refine Lib.hid ?_
  have ⟨hE,hb0,hW⟩:=al1 w (.cells #[.int .i64 0,.int .i64 0,.int .i64 0,.int .u64 0,.int .u64 0,.nilFunc,.pointer none] 62)
  generalize (w.alloc (.cells #[.int .i64 0,.int .i64 0,.int .i64 0,.int .u64 0,.int .u64 0,.nilFunc,.pointer none] 62)) = W at hE hb0 hW ⊢
  replace k1:=(hE.block _ (heap_lt k1.out)).trans k1.out
  replace k2:=(hE.block _ (heap_lt k2.out)).trans k2.out
  replace k3:=(hE.block _ (heap_lt k3.out)).trans k3.out
  clear hW
  clear c0 c1 c2 c3 c4 c5 lt d2_0 e2 d3_0 e3
  refine (rcnt_is p hp x p.r hm W).mono ?_
  rintro e w1 ⟨rfl,hx⟩
  replace hE:=ext_trans hE hx
  replace hb0:=(hx.block _ (heap_lt hb0)).trans hb0
  replace k1:=(hx.block _ (heap_lt k1)).trans k1
  replace k2:=(hx.block _ (heap_lt k2)).trans k2
  replace k3:=(hx.block _ (heap_lt k3)).trans k3
  clear hx
  have ⟨c0,c1,c2,c3,c4,c5,lt⟩:=PBox.plc k1
  replace hE:=Lib.hid hE
  replace hb0:=Lib.hid hb0
  replace k1:=Lib.hid k1
  replace k2:=Lib.hid k2
  replace k3:=Lib.hid k3
  go_wp2_with (go_at_call 141;refine Hid.out ?_)
  refine Lib.hid ?_
  replace hE:=hE.out
  replace hb0:=hb0.out
  replace k1:=k1.out
  replace k2:=k2.out
  replace k3:=k3.out
  clear c0 c1 c2 c3 c4 c5 lt
  have hx:Ext w1 (w1.alloc (.cells #[.int .i64 p.r] 3)):=ext_alloc _ (ext_refl w1)
  have hb1:(w1.alloc (.cells #[.int .i64 p.r] 3)).heap[w1.heap.size]? = some (.cells #[.int .i64 p.r] 3):=heap_at _ _ _ rfl
  have hszhb1:=hE.size
  have hrbhb1:=heap_lt hb0
  generalize w1.alloc (.cells #[.int .i64 p.r] 3) = w1A at hx hb1 ⊢
  replace hE:=ext_trans hE hx
  replace hb0:=(hx.block _ (heap_lt hb0)).trans hb0
  replace k1:=(hx.block _ (heap_lt k1)).trans k1
  replace k2:=(hx.block _ (heap_lt k2)).trans k2
  replace k3:=(hx.block _ (heap_lt k3)).trans k3
  clear hx
  refine (doneI_PT (-1) w1A).mono ?_
  rintro e w' hR
  obtain ⟨v',F',rfl,hX,hp,hbn,hsub,hnF,hbq⟩:=hR.tail (G:=(fun j => j = B1 ∨ j = B2)) (w.heap.size) hE (heap_lt hb0) (fun h => h) (fun _ h => h.elim)
  have hbx:=hbq.trans hb0
  clear hbq hR
  clear hE hb0 k1 k2 k3 hb1
  obtain ⟨y,a2,fn2,rfl,HFN,HX⟩:=tlI hp hX hbx hbn hsub hnF (by omega)
  obtain ⟨c0,c1,c2,c3,c4,c5,c6,cz,ll⟩:=sev_of hbx
  clear hX hbx hp hbn hsub hnF
  rcases HFN.out with rfl | ⟨g',caps',rfl⟩
  all_goals
   go_wp2
   clear c0 c1 c2 c3 c4 c5 c6 cz ll
   obtain ⟨hX,hB,hP⟩:=HX.out
   clear HX
   generalize (World.setCell _ (⟨w.heap.size,6,none⟩ : Addr) _) = Z at hX hB hP ⊢
   obtain ⟨c0,c1,c2,c3,c4,c5,c6,cz,ll⟩:=sev_of hB
   exact bodyPost_ret (by simp only [results,Tryz.results226,go_sem];simp [go_sem,c0,c1,c2,c3,c4,c5,c6]) rfl ⟨_,F',rfl,hX,hP⟩
 ·rw [if_neg hz]
  have qk1:=heap_lt k1
  have ⟨c0,c1,c2,c3,c4,c5,lt⟩:=PBox.plc k1
  have qk2:=heap_lt k2
  have d2_0:=cell_at (o:=0) k2 rfl
  have e2:=cell_lt d2_0
  have qk3:=heap_lt k3
  have d3_0:=cell_at (o:=0) k3 rfl
  have e3:=cell_lt d3_0
  replace k1:=Lib.hid k1
  replace k2:=Lib.hid k2
  replace k3:=Lib.hid k3
  go_enter Tryz.func226,Tryz.ntmps226
  go_wp2_with (go_at_call 95;refine Hid.out ?_)
  refine Lib.hid ?_
  have ⟨hE,hb0,hW⟩:=al1 w (.cells #[.int .i64 0,.int .i64 0,.int .i64 0,.int .u64 0,.int .u64 0,.nilFunc,.pointer none] 62)
  generalize (w.alloc (.cells #[.int .i64 0,.int .i64 0,.int .i64 0,.int .u64 0,.int .u64 0,.nilFunc,.pointer none] 62)) = W at hE hb0 hW ⊢
  replace k1:=(hE.block _ (heap_lt k1.out)).trans k1.out
  replace k2:=(hE.block _ (heap_lt k2.out)).trans k2.out
  replace k3:=(hE.block _ (heap_lt k3.out)).trans k3.out
  clear hW
  clear c0 c1 c2 c3 c4 c5 lt d2_0 e2 d3_0 e3
  refine (rcnt_is p hp x m hm W).mono ?_
  rintro e wa ⟨rfl,hx⟩
  replace hE:=ext_trans hE hx
  replace hb0:=(hx.block _ (heap_lt hb0)).trans hb0
  replace k1:=(hx.block _ (heap_lt k1)).trans k1
  replace k2:=(hx.block _ (heap_lt k2)).trans k2
  replace k3:=(hx.block _ (heap_lt k3)).trans k3
  clear hx
  have ⟨c0,c1,c2,c3,c4,c5,lt⟩:=PBox.plc k1
  replace hE:=Lib.hid hE
  replace hb0:=Lib.hid hb0
  replace k1:=Lib.hid k1
  replace k2:=Lib.hid k2
  replace k3:=Lib.hid k3
  go_upto_region 4 with (fail)
  replace hE:=hE.out
  replace hb0:=hb0.out
  replace k1:=k1.out
  replace k2:=k2.out
  replace k3:=k3.out
  clear c0 c1 c2 c3 c4 c5 lt
  have hx:Ext wa (wa.alloc (.cells #[.int .i64 m] 3)):=ext_alloc _ (ext_refl wa)
  have hb1:(wa.alloc (.cells #[.int .i64 m] 3)).heap[wa.heap.size]? = some (.cells #[.int .i64 m] 3):=heap_at _ _ _ rfl
  have hsz1:=hE.size
  have hrb1:=heap_lt hb0
  generalize wa.alloc (.cells #[.int .i64 m] 3) = X at hx hb1 ⊢
  replace hE:=ext_trans hE hx
  replace hb0:=(hx.block _ (heap_lt hb0)).trans hb0
  replace k1:=(hx.block _ (heap_lt k1)).trans k1
  replace k2:=(hx.block _ (heap_lt k2)).trans k2
  replace k3:=(hx.block _ (heap_lt k3)).trans k3
  clear hx
  have ⟨c0,c1,c2,c3,c4,c5,lt⟩:=PBox.plc k1
  have d2:=cell_at (o:=0) k2 rfl
  have d3:=cell_at (o:=0) k3 rfl
  have d4:=cell_at (o:=0) hb1 rfl
  have e2:=cell_lt d2
  have e3:=cell_lt d3
  have e4:=cell_lt d4
  replace hE:=Lib.hid hE
  replace hb0:=Lib.hid hb0
  replace k1:=Lib.hid k1
  replace k2:=Lib.hid k2
  replace k3:=Lib.hid k3
  replace hb1:=Lib.hid hb1
  refine wp_region_mix (fun w' => ∃ s,w' = over X s) [(0,[0,1,2,4,7]),(1,[3]),(1,[5]),(1,[6]),(1,[8]),(2,[9])] (by kernel_rfl) (by kernel_rfl) (over_of (ext_drew (ext_refl X))) ?_
  simp only [pieces,pickL,List.map_cons,List.map_nil,List.getD_cons_zero,List.getD_cons_succ]
  refine mix_reads ?_
  repeat (go_big_quiet_step (fail))
  refine wpQuiet_nil (mix_acts ?_)
  have HX0:=Lib.hid (ext_drew (ext_refl X))
  go_wp2_with (go_at_call 98;refine (retired_any p t m _).mono ?_;rintro e w1 ⟨rfl,hx⟩;have HX1:=Lib.hid (ext_trans HX0.out hx);clear hx)
  refine mixQ_mk (over_of HX1.out) (mix_acts ?_)
  go_wp2_with (go_at_call 228;refine (rnm_any n hq0 hq1 _).mono ?_;rintro e w2 ⟨rfl,hx⟩;have HX2:=Lib.hid (ext_trans HX1.out hx);clear hx)
  refine mixQ_mk (over_of HX2.out) (mix_acts ?_)
  go_wp2_with (go_at_call 120;refine (set_PT (p.retF t m) (nameW n) _).mono ?_;rintro e w4 ⟨v1,F1,rfl,hx,hp1,hbn1,hsub1⟩;refine Hid.out ?_)
  refine Lib.hid ?_
  replace hE:=hE.out
  replace hb0:=hb0.out
  replace k1:=k1.out
  replace k2:=k2.out
  replace k3:=k3.out
  replace hb1:=hb1.out
  have hn1':¬ F1 (w.heap.size):=fun h => (hsub1 _ h).elim (fun h => h) fun h => by have:=heap_lt hb0;have:=HX2.out.size;omega
  have hs1:∀ j,F1 j → noF j ∨ w.heap.size ≤ j:=fun j hj => (hsub1 j hj).imp_right fun h => Nat.le_trans (Nat.le_trans hE.size HX2.out.size) h
  have HX4:=Lib.hid (ext_trans HX2.out hx)
  replace hb0:=(HX4.out.block _ (heap_lt hb0)).trans hb0
  replace k1:=(HX4.out.block _ (heap_lt k1)).trans k1
  replace k2:=(HX4.out.block _ (heap_lt k2)).trans k2
  replace k3:=(HX4.out.block _ (heap_lt k3)).trans k3
  replace hb1:=(HX4.out.block _ (heap_lt hb1)).trans hb1
  replace hE:=ext_trans hE HX4.out
  clear hx hsub1
  replace hE:=Lib.hid hE
  replace hb0:=Lib.hid hb0
  replace k1:=Lib.hid k1
  replace k2:=Lib.hid k2
  replace k3:=Lib.hid k3
  replace hb1:=Lib.hid hb1
  replace hp1:=Lib.hid hp1
  replace hbn1:=Lib.hid hbn1
  replace hs1:=Lib.hid hs1
  replace hn1':=Lib.hid hn1'
  go_wp2
  refine mixQ_mk (over_of HX4.out) (mix_acts ?_)
  go_wp2_with (go_at_call 227;refine Hid.out ?_)
  refine Lib.hid ?_
  replace hE:=hE.out
  replace hb0:=hb0.out
  replace k1:=k1.out
  replace k2:=k2.out
  replace k3:=k3.out
  replace hb1:=hb1.out
  replace hp1:=hp1.out
  replace hbn1:=hbn1.out
  replace hs1:=hs1.out
  replace hn1':=hn1'.out
  have hCT:=put2_CT p t m B1 B2 wa.heap.size w4 hmr.1 (by omega) k1 k2 hb1
  refine (then_NI _ _ F1 _ v1 _ w4 hp1 hCT hbn1 (fun j h => by rcases h with rfl | rfl | rfl;exact heap_lt k1;exact heap_lt k2;exact heap_lt hb1)).mono ?_
  rintro e w' hR
  have HXZ:=Lib.hid (ext_trans HX4.out hR.ext)
  obtain ⟨v',F',rfl,hX,hp,hbn,hsub,hnF,hbq⟩:=hR.tail (G:=(fun j => j = B1 ∨ j = B2)) (w.heap.size) hE (heap_lt hb0) (fun h => by rcases h with h | h | h | h;exact hn1' h;omega;omega;omega) (fun j h => by rcases h with h | h | h | h;exact (hs1 j h).imp_left False.elim;exact .inl (.inl h);exact .inl (.inr h);exact .inr (by omega))
  have hbx:=hbq.trans hb0
  clear hbq hR
  go_wp2
  refine mixQ_mk (over_of HXZ.out) (mix_late ?_)
  clear hE hb0 k1 k2 k3 hb1 hp1 hbn1 hs1 hn1' hCT c0 c1 c2 c3 c4 c5 lt d2 d3 d4 e2 e3 e4
  obtain ⟨y,a2,fn2,rfl,HFN,HX⟩:=tlI hp hX hbx hbn hsub hnF (by omega)
  obtain ⟨c0,c1,c2,c3,c4,c5,c6,cz,ll⟩:=sev_of hbx
  clear hX hbx hp hbn hsub hnF
  rcases HFN.out with rfl | ⟨g',caps',rfl⟩
  all_goals
   go_wp2
   refine lateQ_mk (fun _ => True) trivial (mix_end ?_)
   clear c0 c1 c2 c3 c4 c5 c6 cz ll
   obtain ⟨hX,hB,hP⟩:=HX.out
   clear HX
   generalize (World.setCell _ (⟨w.heap.size,6,none⟩ : Addr) _) = Z at hX hB hP ⊢
   obtain ⟨c0,c1,c2,c3,c4,c5,c6,cz,ll⟩:=sev_of hB
   go_wp2
   exact bodyPost_ret (by simp only [results,Tryz.results226,go_sem];simp [go_sem,c0,c1,c2,c3,c4,c5,c6]) rfl ⟨_,F',rfl,hX,hP⟩
theorem put1_CT (p:Pl) (t n:Int) (B1 B2 B3:Nat) (w:World) (hp:p.ok) (hq0:0 ≤ n) (hq1:n < 4611686018427387904) (k1:PBox B1 p w) (k2:w.heap[B2]? = some (.cells #[.int .i64 t] 3 (0,0))) (k3:w.heap[B3]? = some (.cells #[.int .i64 n] 3 (0,0))) :
  CT kU kI (fun x => put1T p t n x) (fun j => j = B1 ∨ j = B2 ∨ j = B3) (.func (.func 226) #[] #[.pointer (some ⟨B1,0,none⟩),.pointer (some ⟨B2,0,none⟩),.pointer (some ⟨B3,0,none⟩)]) w:=
 ⟨_,_,rfl,enters_of Tryz.func226 (by kernel_rfl) rfl,fun x w' ha => (put1_PT p t n x B1 B2 B3 w' hp hq0 hq1 ((ha B1 (.inl rfl)).trans k1) ((ha B2 (.inr (.inl rfl))).trans k2) ((ha B3 (.inr (.inr rfl))).trans k3)).mono fun _ _ h => h.mono fun _ h => h.elim .inl fun h => .inr (.inl h)⟩
theorem rput_PT (p:Pl) (t n:Int) (w:World) (hp:p.ok) (hq0:0 ≤ n) (hq1:n < 4611686018427387904)  :
  Calls Tryz.prog 167 #[plV p,.int .i64 t,.int .i64 n] w (RetP (PT kI (putT p t n)) noF w):=by
 go_enter Tryz.func167,Tryz.ntmps167
 go_wp2_with (go_at_call 96;refine Hid.out ?_)
 refine Lib.hid ?_
 have ⟨hE,hb0,hb1,hb2,hb3,hW⟩:=al4 w (.cells #[.int .i64 p.n,.int .i64 p.t,.int .i64 p.r,.int .i64 p.d,.int .i64 p.b,.int .i64 p.g] 23) (.cells #[.int .i64 t] 3) (.cells #[.int .i64 n] 3) (.cells #[.int .i64 0,.int .i64 0,.int .i64 0,.int .u64 0,.int .u64 0,.nilFunc,.pointer none] 62)
 generalize ((((w.alloc (.cells #[.int .i64 p.n,.int .i64 p.t,.int .i64 p.r,.int .i64 p.d,.int .i64 p.b,.int .i64 p.g] 23)).alloc (.cells #[.int .i64 t] 3)).alloc (.cells #[.int .i64 n] 3)).alloc (.cells #[.int .i64 0,.int .i64 0,.int .i64 0,.int .u64 0,.int .u64 0,.nilFunc,.pointer none] 62)) = W at hE hb0 hb1 hb2 hb3 hW ⊢
 clear hW
 refine (cnt_any p t W).mono ?_
 rintro e w1 ⟨rfl,hx⟩
 replace hE:=ext_trans hE hx
 replace hb0:=(hx.block _ (heap_lt hb0)).trans hb0
 replace hb1:=(hx.block _ (heap_lt hb1)).trans hb1
 replace hb2:=(hx.block _ (heap_lt hb2)).trans hb2
 replace hb3:=(hx.block _ (heap_lt hb3)).trans hb3
 clear hx
 replace hE:=Lib.hid hE
 replace hb0:=Lib.hid hb0
 replace hb1:=Lib.hid hb1
 replace hb2:=Lib.hid hb2
 replace hb3:=Lib.hid hb3
 go_wp2_with (go_at_call 117;refine Hid.out ?_)
 refine Lib.hid ?_
 replace hE:=hE.out
 replace hb0:=hb0.out
 replace hb1:=hb1.out
 replace hb2:=hb2.out
 replace hb3:=hb3.out
 refine (get_PT (p.cntF t) w1).mono ?_
 rintro e w2 ⟨v1,F1,rfl,hx,hp1,hbn1,hsub⟩
 have hn1:¬ F1 (w.heap.size+1+1+1):=fun h => (hsub _ h).elim (fun h => h) fun h => by have:=heap_lt hb3;omega
 have hs1:∀ j,F1 j → noF j ∨ w.heap.size ≤ j:=fun j hj => (hsub j hj).imp_right fun h => Nat.le_trans hE.size h
 replace hE:=ext_trans hE hx
 replace hb0:=(hx.block _ (heap_lt hb0)).trans hb0
 replace hb1:=(hx.block _ (heap_lt hb1)).trans hb1
 replace hb2:=(hx.block _ (heap_lt hb2)).trans hb2
 replace hb3:=(hx.block _ (heap_lt hb3)).trans hb3
 clear hx hsub
 replace hE:=Lib.hid hE
 replace hb0:=Lib.hid hb0
 replace hb1:=Lib.hid hb1
 replace hb2:=Lib.hid hb2
 replace hb3:=Lib.hid hb3
 replace hp1:=Lib.hid hp1
 replace hbn1:=Lib.hid hbn1
 replace hs1:=Lib.hid hs1
 replace hn1:=Lib.hid hn1
 go_wp2_with (go_at_call 139;refine Hid.out ?_)
 refine Lib.hid ?_
 replace hE:=hE.out
 replace hb0:=hb0.out
 replace hb1:=hb1.out
 replace hb2:=hb2.out
 replace hb3:=hb3.out
 replace hp1:=hp1.out
 replace hbn1:=hbn1.out
 replace hs1:=hs1.out
 replace hn1:=hn1.out
 have hCT:=put1_CT p t n w.heap.size (w.heap.size+1) (w.heap.size+1+1) w2 hp hq0 hq1 hb0 hb1 hb2
 refine (then_UI _ _ F1 _ v1 _ w2 hp1 hCT hbn1 (fun j h => by rcases h with rfl | rfl | rfl;exact heap_lt hb0;exact heap_lt hb1;exact heap_lt hb2)).mono ?_
 rintro e w' hR
 obtain ⟨v',F',rfl,hX,hp,hbn,hsub,hnF,hbq⟩:=hR.tail (G:=noF) (w.heap.size+1+1+1) hE (heap_lt hb3) (fun h => by rcases h with h | h | h | h;exact hn1 h;omega;omega;omega) (fun j h => by rcases h with h | h | h | h;exact (hs1 j h).imp_left False.elim;exact .inr (by omega);exact .inr (by omega);exact .inr (by omega))
 have hbx:=hbq.trans hb3
 clear hbq hR
 clear hE hb0 hb1 hb2 hb3 hp1 hbn1 hs1 hn1 hCT
 obtain ⟨y,a2,fn2,rfl,HFN,HX⟩:=tlI hp hX hbx hbn hsub hnF (by omega)
 obtain ⟨c0,c1,c2,c3,c4,c5,c6,cz,ll⟩:=sev_of hbx
 clear hX hbx hp hbn hsub hnF
 rcases HFN.out with rfl | ⟨g',caps',rfl⟩
 all_goals
  go_wp2
  clear c0 c1 c2 c3 c4 c5 c6 cz ll
  obtain ⟨hX,hB,hP⟩:=HX.out
  clear HX
  generalize (World.setCell _ (⟨w.heap.size+1+1+1,6,none⟩ : Addr) _) = Z at hX hB hP ⊢
  obtain ⟨c0,c1,c2,c3,c4,c5,c6,cz,ll⟩:=sev_of hB
  exact bodyPost_ret (by simp only [results,Tryz.results167,go_sem];simp [go_sem,c0,c1,c2,c3,c4,c5,c6]) rfl ⟨_,F',rfl,hX,hP⟩
end Go.Proofs.YthjklbonebnekaaGreat

