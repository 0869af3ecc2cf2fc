/-
  What the calls of leave and whileGood come to. Conditions: those of each theorem.
-/
import Derived.Test.YthjklbonebnekaaGreatGak
import Derived.Test.YthjklbonebnekaaGreatGar
import Derived.Test.YthjklbonebnekaaGreatGas
import Derived.Test.YthjklbonebnekaaGreatGbi
import Derived.Test.YthjklbonebnekaaGreatGbo
import Derived.Test.YthjklbonebnekaaGreatGbp
set_option maxRecDepth 8000
set_option maxHeartbeats 4000000
namespace Go.Proofs.YthjklbonebnekaaGreat
open Go Go.RowKit
theorem clv1_PT (tr:Tr Rz) (F:Nat → Prop) (y0 y1:Int) (a2:Acc) (fn2:Value) (B1:Nat) (w:World) (hfn:fn2 = .nilFunc ∨ ∃ g caps,fn2 = .func (.func g) #[] caps) (k1:w.heap[B1]? = some (.cells #[.int .i64 y0,.int .u64 y1,.int .i64 a2.op,.int .i64 a2.at_,.int .u64 (U a2.a),.int .u64 (U a2.b),fn2,.pointer none] 99 (0,0))) (hP:PT kR tr F (.agg #[.int .i64 y0,.int .u64 y1,.int .i64 a2.op,.int .i64 a2.at_,.int .u64 (U a2.a),.int .u64 (U a2.b),fn2,.pointer none]) w) (hF:Bnd F w) :
  Calls Tryz.prog 234 #[.agg #[],.pointer (some ⟨B1,0,none⟩)] w (RetP (PT kR tr) F w):=by
 have hPP:=Lib.hid hP
 have hFF:=Lib.hid hF
 have HFN0:=Lib.hid hfn
 clear hP hF hfn
 rcases HFN0.out with rfl | ⟨g0,caps0,rfl⟩
 ·obtain ⟨d0,d1,d2,d3,d4,d5,d6,d7,dz,dl⟩:=eit_of k1
  replace k1:=Lib.hid k1
  go_enter Tryz.func234,Tryz.ntmps234
  go_upto_region 1 with (fail)
  have ⟨hE,hb0,hb1,hW⟩:=al2 w (.cells #[] 132) (.cells #[.int .i64 0,.int .u64 0,.int .i64 0,.int .i64 0,.int .u64 0,.int .u64 0,.nilFunc,.pointer none] 99)
  generalize ((w.alloc (.cells #[] 132)).alloc (.cells #[.int .i64 0,.int .u64 0,.int .i64 0,.int .i64 0,.int .u64 0,.int .u64 0,.nilFunc,.pointer none] 99)) = W at hE hb0 hb1 hW ⊢
  have k1:=(hE.block _ (heap_lt k1.out)).trans k1.out
  clear d0 d1 d2 d3 d4 d5 d6 d7 dz dl
  obtain ⟨d0,d1,d2,d3,d4,d5,d6,d7,dz,dl⟩:=eit_of k1
  have hnF:¬ F (w.heap.size+1):=fun h => by have:=hFF.out _ h;omega
  have hXX:=put8_ext (b:=w.heap.size+1) (.int .i64 y0) (.int .u64 y1) (.int .i64 a2.op) (.int .i64 a2.at_) (.int .u64 (U a2.a)) (.int .u64 (U a2.b)) (.nilFunc) (.pointer none) hE (by omega)
  have hB:=put8_block (.int .i64 y0) (.int .u64 y1) (.int .i64 a2.op) (.int .i64 a2.at_) (.int .u64 (U a2.a)) (.int .u64 (U a2.b)) (.nilFunc) (.pointer none) hb1
  have hP:=(hPP.out.agr (Agr.of_ext hE hFF.out)).agr (Agr.of_put8 (b:=w.heap.size+1) (.int .i64 y0) (.int .u64 y1) (.int .i64 a2.op) (.int .i64 a2.at_) (.int .u64 (U a2.a)) (.int .u64 (U a2.b)) (.nilFunc) (.pointer none) hnF)
  have hS:(put8 (w.heap.size+1) (.int .i64 y0) (.int .u64 y1) (.int .i64 a2.op) (.int .i64 a2.at_) (.int .u64 (U a2.a)) (.int .u64 (U a2.b)) (.nilFunc) (.pointer none) W).heap.size = W.heap.size:=put8_size (.int .i64 y0) (.int .u64 y1) (.int .i64 a2.op) (.int .i64 a2.at_) (.int .u64 (U a2.a)) (.int .u64 (U a2.b)) (.nilFunc) (.pointer none)
  have hEs:=hE.size
  obtain ⟨c0,c1,c2,c3,c4,c5,c6,c7,cz,ll⟩:=eit_of hb1
  rw [put8] at hXX hB hP hS
  have HX:=Lib.hid (And.intro hXX (And.intro hB (And.intro hP hS)))
  have HES:=Lib.hid hEs
  clear hXX hB hP hS hE hb0 hb1 k1 hnF hPP hEs hW
  go_wp2
  clear c0 c1 c2 c3 c4 c5 c6 c7 cz ll d0 d1 d2 d3 d4 d5 d6 d7 dz dl
  obtain ⟨hX,hB,hP,hS⟩:=HX.out
  clear HX
  generalize (World.setCell _ (⟨w.heap.size+1,7,none⟩ : Addr) _) = Z at hX hB hP hS ⊢
  obtain ⟨c0,c1,c2,c3,c4,c5,c6,c7,cz,ll⟩:=eit_of hB
  exact bodyPost_ret (by simp only [results,Tryz.results234,go_sem];simp [go_sem,c0,c1,c2,c3,c4,c5,c6,c7]) rfl ⟨_,F,rfl,hX,hP,fun j hj => by rw [hS];exact Nat.lt_of_lt_of_le (hFF.out j hj) HES.out,fun j hj => .inl hj⟩
 ·obtain ⟨d0,d1,d2,d3,d4,d5,d6,d7,dz,dl⟩:=eit_of k1
  replace k1:=Lib.hid k1
  go_enter Tryz.func234,Tryz.ntmps234
  go_upto_region 1 with (fail)
  have ⟨hE,hb0,hb1,hW⟩:=al2 w (.cells #[] 132) (.cells #[.int .i64 0,.int .u64 0,.int .i64 0,.int .i64 0,.int .u64 0,.int .u64 0,.nilFunc,.pointer none] 99)
  generalize ((w.alloc (.cells #[] 132)).alloc (.cells #[.int .i64 0,.int .u64 0,.int .i64 0,.int .i64 0,.int .u64 0,.int .u64 0,.nilFunc,.pointer none] 99)) = W at hE hb0 hb1 hW ⊢
  have k1:=(hE.block _ (heap_lt k1.out)).trans k1.out
  clear d0 d1 d2 d3 d4 d5 d6 d7 dz dl
  obtain ⟨d0,d1,d2,d3,d4,d5,d6,d7,dz,dl⟩:=eit_of k1
  have hnF:¬ F (w.heap.size+1):=fun h => by have:=hFF.out _ h;omega
  have hXX:=put8_ext (b:=w.heap.size+1) (.int .i64 y0) (.int .u64 y1) (.int .i64 a2.op) (.int .i64 a2.at_) (.int .u64 (U a2.a)) (.int .u64 (U a2.b)) (.func (.func g0) #[] caps0) (.pointer none) hE (by omega)
  have hB:=put8_block (.int .i64 y0) (.int .u64 y1) (.int .i64 a2.op) (.int .i64 a2.at_) (.int .u64 (U a2.a)) (.int .u64 (U a2.b)) (.func (.func g0) #[] caps0) (.pointer none) hb1
  have hP:=(hPP.out.agr (Agr.of_ext hE hFF.out)).agr (Agr.of_put8 (b:=w.heap.size+1) (.int .i64 y0) (.int .u64 y1) (.int .i64 a2.op) (.int .i64 a2.at_) (.int .u64 (U a2.a)) (.int .u64 (U a2.b)) (.func (.func g0) #[] caps0) (.pointer none) hnF)
  have hS:(put8 (w.heap.size+1) (.int .i64 y0) (.int .u64 y1) (.int .i64 a2.op) (.int .i64 a2.at_) (.int .u64 (U a2.a)) (.int .u64 (U a2.b)) (.func (.func g0) #[] caps0) (.pointer none) W).heap.size = W.heap.size:=put8_size (.int .i64 y0) (.int .u64 y1) (.int .i64 a2.op) (.int .i64 a2.at_) (.int .u64 (U a2.a)) (.int .u64 (U a2.b)) (.func (.func g0) #[] caps0) (.pointer none)
  have hEs:=hE.size
  obtain ⟨c0,c1,c2,c3,c4,c5,c6,c7,cz,ll⟩:=eit_of hb1
  rw [put8] at hXX hB hP hS
  have HX:=Lib.hid (And.intro hXX (And.intro hB (And.intro hP hS)))
  have HES:=Lib.hid hEs
  clear hXX hB hP hS hE hb0 hb1 k1 hnF hPP hEs hW
  go_wp2
  clear c0 c1 c2 c3 c4 c5 c6 c7 cz ll d0 d1 d2 d3 d4 d5 d6 d7 dz dl
  obtain ⟨hX,hB,hP,hS⟩:=HX.out
  clear HX
  generalize (World.setCell _ (⟨w.heap.size+1,7,none⟩ : Addr) _) = Z at hX hB hP hS ⊢
  obtain ⟨c0,c1,c2,c3,c4,c5,c6,c7,cz,ll⟩:=eit_of hB
  exact bodyPost_ret (by simp only [results,Tryz.results234,go_sem];simp [go_sem,c0,c1,c2,c3,c4,c5,c6,c7]) rfl ⟨_,F,rfl,hX,hP,fun j hj => by rw [hS];exact Nat.lt_of_lt_of_le (hFF.out j hj) HES.out,fun j hj => .inl hj⟩
theorem clv1_CT (tr:Tr Rz) (F:Nat → Prop) (y0 y1:Int) (a2:Acc) (fn2:Value) (B1:Nat) (w:World) (hfn:fn2 = .nilFunc ∨ ∃ g caps,fn2 = .func (.func g) #[] caps) (k1:w.heap[B1]? = some (.cells #[.int .i64 y0,.int .u64 y1,.int .i64 a2.op,.int .i64 a2.at_,.int .u64 (U a2.a),.int .u64 (U a2.b),fn2,.pointer none] 99 (0,0))) (hP:PT kR tr F (.agg #[.int .i64 y0,.int .u64 y1,.int .i64 a2.op,.int .i64 a2.at_,.int .u64 (U a2.a),.int .u64 (U a2.b),fn2,.pointer none]) w) (hF:Bnd F w) :
  CT kN kR (fun _ => tr) (fun j => F j ∨ j = B1) (.func (.func 234) #[] #[.pointer (some ⟨B1,0,none⟩)]) w:=by
 refine ⟨_,_,rfl,enters_of Tryz.func234 (by kernel_rfl) rfl,fun _ w' ha => ?_⟩
 have hFw:Agr F w w':=ha.sub fun j h => .inl h
 exact (clv1_PT tr F y0 y1 a2 fn2 B1 w' hfn ((ha B1 (.inr rfl)).trans k1) (hP.agr hFw) (hF.agr hFw)).mono fun _ _ h => h.mono fun j h => .inl h
theorem cleave_PT (s:Se) (tr:Tr Rz) (F:Nat → Prop) (v:Value) (w:World) (hP:PT kR tr F v w) (hF:Bnd F w) :
  Calls Tryz.prog 184 #[seV s,v] w (RetP (PT kR (lvT s.p s.th tr)) F w):=by
 obtain ⟨y0,y1,a2,fn2,rfl,hfn⟩:=shR hP
 have HFN0:=Lib.hid hfn
 clear hfn
 rcases HFN0.out with rfl | ⟨g0,caps0,rfl⟩
 ·replace hP:=Lib.hid hP
  go_enter Tryz.func184,Tryz.ntmps184
  go_wp2_with (go_at_call 189;refine Hid.out ?_)
  refine Lib.hid ?_
  have ⟨hE,hb0,hb1,hb2,hW⟩:=al3 w (.cells #[.int .i64 s.p.n,.int .i64 s.p.t,.int .i64 s.p.r,.int .i64 s.p.d,.int .i64 s.p.b,.int .i64 s.p.g,.int .i64 s.tn,.int .i64 s.th] 82) (.cells #[.int .i64 y0,.int .u64 y1,.int .i64 a2.op,.int .i64 a2.at_,.int .u64 (U a2.a),.int .u64 (U a2.b),.nilFunc,.pointer none] 99) (.cells #[.int .i64 0,.int .u64 0,.int .i64 0,.int .i64 0,.int .u64 0,.int .u64 0,.nilFunc,.pointer none] 99)
  generalize (((w.alloc (.cells #[.int .i64 s.p.n,.int .i64 s.p.t,.int .i64 s.p.r,.int .i64 s.p.d,.int .i64 s.p.b,.int .i64 s.p.g,.int .i64 s.tn,.int .i64 s.th] 82)).alloc (.cells #[.int .i64 y0,.int .u64 y1,.int .i64 a2.op,.int .i64 a2.at_,.int .u64 (U a2.a),.int .u64 (U a2.b),.nilFunc,.pointer none] 99)).alloc (.cells #[.int .i64 0,.int .u64 0,.int .i64 0,.int .i64 0,.int .u64 0,.int .u64 0,.nilFunc,.pointer none] 99)) = W at hE hb0 hb1 hb2 hW ⊢
  clear hW
  refine (hset_PT s.p s.th 0 (-1) (by omega) (by omega) W).mono ?_
  rintro e w1 ⟨v1,F1,rfl,hx,hp1,hbn1,hsub⟩
  have hn1:¬ F1 (w.heap.size+1+1):=fun h => (hsub _ h).elim (fun h => h) fun h => by have:=heap_lt hb2;omega
  have hs1:∀ j,F1 j → noF j ∨ w.heap.size ≤ j:=fun j hj => (hsub j hj).imp_right fun h => Nat.le_trans hE.size h
  replace hE:=ext_trans hE hx
  replace hb0:=(hx.block _ (heap_lt hb0)).trans hb0
  replace hb1:=(hx.block _ (heap_lt hb1)).trans hb1
  replace hb2:=(hx.block _ (heap_lt hb2)).trans hb2
  clear hx hsub
  replace hE:=Lib.hid hE
  replace hb0:=Lib.hid hb0
  replace hb1:=Lib.hid hb1
  replace hb2:=Lib.hid hb2
  replace hp1:=Lib.hid hp1
  replace hbn1:=Lib.hid hbn1
  replace hs1:=Lib.hid hs1
  replace hn1:=Lib.hid hn1
  go_wp2_with (go_at_call 188;refine Hid.out ?_)
  refine Lib.hid ?_
  replace hE:=hE.out
  replace hb0:=hb0.out
  replace hb1:=hb1.out
  replace hb2:=hb2.out
  replace hp1:=hp1.out
  replace hbn1:=hbn1.out
  replace hs1:=hs1.out
  replace hn1:=hn1.out
  have hCT:=clv1_CT tr F y0 y1 a2 (.nilFunc) (w.heap.size+1) w1 (.inl rfl) hb1 (hP.out.agr (Agr.of_ext hE hF)) (hF.ext hE.size)
  refine (then_NR _ _ F1 _ v1 _ w1 hp1 hCT hbn1 (fun j h => by rcases h with h | rfl;exact Nat.lt_of_lt_of_le (hF j h) hE.size;exact heap_lt hb1)).mono ?_
  rintro e w' hR
  obtain ⟨v',F',rfl,hX,hp,hbn,hsub,hnF,hbq⟩:=hR.tail (G:=F) (w.heap.size+1+1) hE (heap_lt hb2) (fun h => by rcases h with h | h | h;exact hn1 h;(have:=hF _ h;omega);omega) (fun j h => by rcases h with h | h | h;exact (hs1 j h).imp_left False.elim;exact .inl (h);exact .inr (by omega))
  have hbx:=hbq.trans hb2
  clear hbq hR
  clear hE hb0 hb1 hb2 hp1 hbn1 hs1 hn1 hP hCT
  obtain ⟨y0,y1,a2,fn2,rfl,HFN,HX⟩:=tlR hp hX hbx hbn hsub hnF (by omega)
  obtain ⟨c0,c1,c2,c3,c4,c5,c6,c7,cz,ll⟩:=eit_of hbx
  clear hX hbx hp hbn hsub hnF
  rcases HFN.out with rfl | ⟨g',caps',rfl⟩
  all_goals
   go_wp2
   clear c0 c1 c2 c3 c4 c5 c6 c7 cz ll
   obtain ⟨hX,hB,hP⟩:=HX.out
   clear HX
   generalize (World.setCell _ (⟨w.heap.size+1+1,7,none⟩ : Addr) _) = Z at hX hB hP ⊢
   obtain ⟨c0,c1,c2,c3,c4,c5,c6,c7,cz,ll⟩:=eit_of hB
   exact bodyPost_ret (by simp only [results,Tryz.results184,go_sem];simp [go_sem,c0,c1,c2,c3,c4,c5,c6,c7]) rfl ⟨_,F',rfl,hX,hP⟩
 ·replace hP:=Lib.hid hP
  go_enter Tryz.func184,Tryz.ntmps184
  go_wp2_with (go_at_call 189;refine Hid.out ?_)
  refine Lib.hid ?_
  have ⟨hE,hb0,hb1,hb2,hW⟩:=al3 w (.cells #[.int .i64 s.p.n,.int .i64 s.p.t,.int .i64 s.p.r,.int .i64 s.p.d,.int .i64 s.p.b,.int .i64 s.p.g,.int .i64 s.tn,.int .i64 s.th] 82) (.cells #[.int .i64 y0,.int .u64 y1,.int .i64 a2.op,.int .i64 a2.at_,.int .u64 (U a2.a),.int .u64 (U a2.b),.func (.func g0) #[] caps0,.pointer none] 99) (.cells #[.int .i64 0,.int .u64 0,.int .i64 0,.int .i64 0,.int .u64 0,.int .u64 0,.nilFunc,.pointer none] 99)
  generalize (((w.alloc (.cells #[.int .i64 s.p.n,.int .i64 s.p.t,.int .i64 s.p.r,.int .i64 s.p.d,.int .i64 s.p.b,.int .i64 s.p.g,.int .i64 s.tn,.int .i64 s.th] 82)).alloc (.cells #[.int .i64 y0,.int .u64 y1,.int .i64 a2.op,.int .i64 a2.at_,.int .u64 (U a2.a),.int .u64 (U a2.b),.func (.func g0) #[] caps0,.pointer none] 99)).alloc (.cells #[.int .i64 0,.int .u64 0,.int .i64 0,.int .i64 0,.int .u64 0,.int .u64 0,.nilFunc,.pointer none] 99)) = W at hE hb0 hb1 hb2 hW ⊢
  clear hW
  refine (hset_PT s.p s.th 0 (-1) (by omega) (by omega) W).mono ?_
  rintro e w1 ⟨v1,F1,rfl,hx,hp1,hbn1,hsub⟩
  have hn1:¬ F1 (w.heap.size+1+1):=fun h => (hsub _ h).elim (fun h => h) fun h => by have:=heap_lt hb2;omega
  have hs1:∀ j,F1 j → noF j ∨ w.heap.size ≤ j:=fun j hj => (hsub j hj).imp_right fun h => Nat.le_trans hE.size h
  replace hE:=ext_trans hE hx
  replace hb0:=(hx.block _ (heap_lt hb0)).trans hb0
  replace hb1:=(hx.block _ (heap_lt hb1)).trans hb1
  replace hb2:=(hx.block _ (heap_lt hb2)).trans hb2
  clear hx hsub
  replace hE:=Lib.hid hE
  replace hb0:=Lib.hid hb0
  replace hb1:=Lib.hid hb1
  replace hb2:=Lib.hid hb2
  replace hp1:=Lib.hid hp1
  replace hbn1:=Lib.hid hbn1
  replace hs1:=Lib.hid hs1
  replace hn1:=Lib.hid hn1
  go_wp2_with (go_at_call 188;refine Hid.out ?_)
  refine Lib.hid ?_
  replace hE:=hE.out
  replace hb0:=hb0.out
  replace hb1:=hb1.out
  replace hb2:=hb2.out
  replace hp1:=hp1.out
  replace hbn1:=hbn1.out
  replace hs1:=hs1.out
  replace hn1:=hn1.out
  have hCT:=clv1_CT tr F y0 y1 a2 (.func (.func g0) #[] caps0) (w.heap.size+1) w1 (.inr ⟨_,_,rfl⟩) hb1 (hP.out.agr (Agr.of_ext hE hF)) (hF.ext hE.size)
  refine (then_NR _ _ F1 _ v1 _ w1 hp1 hCT hbn1 (fun j h => by rcases h with h | rfl;exact Nat.lt_of_lt_of_le (hF j h) hE.size;exact heap_lt hb1)).mono ?_
  rintro e w' hR
  obtain ⟨v',F',rfl,hX,hp,hbn,hsub,hnF,hbq⟩:=hR.tail (G:=F) (w.heap.size+1+1) hE (heap_lt hb2) (fun h => by rcases h with h | h | h;exact hn1 h;(have:=hF _ h;omega);omega) (fun j h => by rcases h with h | h | h;exact (hs1 j h).imp_left False.elim;exact .inl (h);exact .inr (by omega))
  have hbx:=hbq.trans hb2
  clear hbq hR
  clear hE hb0 hb1 hb2 hp1 hbn1 hs1 hn1 hP hCT
  obtain ⟨y0,y1,a2,fn2,rfl,HFN,HX⟩:=tlR hp hX hbx hbn hsub hnF (by omega)
  obtain ⟨c0,c1,c2,c3,c4,c5,c6,c7,cz,ll⟩:=eit_of hbx
  clear hX hbx hp hbn hsub hnF
  rcases HFN.out with rfl | ⟨g',caps',rfl⟩
  all_goals
   go_wp2
   clear c0 c1 c2 c3 c4 c5 c6 c7 cz ll
   obtain ⟨hX,hB,hP⟩:=HX.out
   clear HX
   generalize (World.setCell _ (⟨w.heap.size+1+1,7,none⟩ : Addr) _) = Z at hX hB hP ⊢
   obtain ⟨c0,c1,c2,c3,c4,c5,c6,c7,cz,ll⟩:=eit_of hB
   exact bodyPost_ret (by simp only [results,Tryz.results184,go_sem];simp [go_sem,c0,c1,c2,c3,c4,c5,c6,c7]) rfl ⟨_,F',rfl,hX,hP⟩
theorem wg1_PT (h:Hn) (yes no:Tr Rz) (x:BitVec 64) (F:Nat → Prop) (g1:FuncId) (caps1:Array Value) (g2:FuncId) (caps2:Array Value) (B1 B2 B3:Nat) (w:World) (hN:AR no F (.func (.func g1) #[] caps1) w) (hY:AR yes F (.func (.func g2) #[] caps2) w) (k1:w.heap[B1]? = some (.cells #[.int .i64 h.i,.int .i64 h.g,.int .i64 h.t] 107 (0,0))) (k2:w.heap[B2]? = some (.cells #[.func (.func g1) #[] caps1] 212 (0,0))) (k3:w.heap[B3]? = some (.cells #[.func (.func g2) #[] caps2] 212 (0,0))) (hF:Bnd F w) :
  Calls Tryz.prog 197 #[.int .u64 (U x),.pointer (some ⟨B1,0,none⟩),.pointer (some ⟨B2,0,none⟩),.pointer (some ⟨B3,0,none⟩)] w (RetP (PT kR (wg1T h.g yes no x)) F w):=by
 obtain ⟨g1',caps1',e1,hg1,hc1⟩:=hN
 cases e1
 obtain ⟨g2',caps2',e2,hg2,hc2⟩:=hY
 cases e2
 have HN1:=Lib.hid hc1
 have HN2:=Lib.hid hc2
 unfold Enters at hg1 hg2
 clear hc1 hc2
 obtain ⟨z,hz⟩ : ∃ z,gW h.g = z:=⟨_,rfl⟩
 have hD:∀ W,Calls Tryz.prog 22 #[.agg #[.int .i64 h.g,.int .i64 1,.int .i64 0]] W (Ret (.int .u64 (U z)) W):=fun W => by
  have h9:=word_any ⟨h.g,1,0⟩ W
  unfold gW at hz
  rw [hz] at h9
  exact h9
 by_cases hx:x = z
 ·have eT:wg1T h.g yes no x = yes:=by unfold wg1T;rw [hz,if_pos hx]
  rw [eT]
  have hne:(U x != U z) = false:=by simp [hx]
  clear eT hx hz
  have qk1:=heap_lt k1
  have d1_0:=cell_at (o:=0) k1 rfl
  have d1_1:=cell_at (o:=1) k1 rfl
  have d1_2:=cell_at (o:=2) k1 rfl
  have e1:=cell_lt d1_0
  have qk2:=heap_lt k2
  have d2_0:=cell_at (o:=0) k2 rfl
  have e2:=cell_lt d2_0
  have qk3:=heap_lt k3
  have d3_0:=cell_at (o:=0) k3 rfl
  have e3:=cell_lt d3_0
  replace k1:=Lib.hid k1
  replace k2:=Lib.hid k2
  replace k3:=Lib.hid k3
  replace hD:=Lib.hid hD
  replace hF:=Lib.hid hF
  go_enter Tryz.func197,Tryz.ntmps197
  go_wp2_with (go_at_call 198;refine Hid.out ?_)
  refine Lib.hid ?_
  have ⟨hE,hb0,hW⟩:=al1 w (.cells #[.int .i64 0,.int .u64 0,.int .i64 0,.int .i64 0,.int .u64 0,.int .u64 0,.nilFunc,.pointer none] 99)
  generalize (w.alloc (.cells #[.int .i64 0,.int .u64 0,.int .i64 0,.int .i64 0,.int .u64 0,.int .u64 0,.nilFunc,.pointer none] 99)) = W at hE hb0 hW ⊢
  replace k1:=(hE.block _ (heap_lt k1.out)).trans k1.out
  replace k2:=(hE.block _ (heap_lt k2.out)).trans k2.out
  replace k3:=(hE.block _ (heap_lt k3.out)).trans k3.out
  clear hW
  clear d1_0 d1_1 d1_2 e1 d2_0 e2 d3_0 e3
  refine (cgr_any h.i h.g h.t W).mono ?_
  rintro e w1 ⟨rfl,hx⟩
  replace hE:=ext_trans hE hx
  replace hb0:=(hx.block _ (heap_lt hb0)).trans hb0
  replace k1:=(hx.block _ (heap_lt k1)).trans k1
  replace k2:=(hx.block _ (heap_lt k2)).trans k2
  replace k3:=(hx.block _ (heap_lt k3)).trans k3
  clear hx
  replace hE:=Lib.hid hE
  replace hb0:=Lib.hid hb0
  replace k1:=Lib.hid k1
  replace k2:=Lib.hid k2
  replace k3:=Lib.hid k3
  go_wp2_with (go_at_call 22;refine Hid.out ?_)
  refine Lib.hid ?_
  replace hE:=hE.out
  replace hb0:=hb0.out
  replace k1:=k1.out
  replace k2:=k2.out
  replace k3:=k3.out
  refine (hD.out w1).mono ?_
  rintro e w2 ⟨rfl,hx⟩
  replace hE:=ext_trans hE hx
  replace hb0:=(hx.block _ (heap_lt hb0)).trans hb0
  replace k1:=(hx.block _ (heap_lt k1)).trans k1
  replace k2:=(hx.block _ (heap_lt k2)).trans k2
  replace k3:=(hx.block _ (heap_lt k3)).trans k3
  clear hx
  have HCX:=Lib.hid (HN2.out w2 (Agr.of_ext hE hF.out))
  have hnF0:¬ F w.heap.size:=fun h => by have:=hF.out _ h;omega
  have d4_0:=cell_at (o:=0) k2 rfl
  have e4:=cell_lt d4_0
  have d5_0:=cell_at (o:=0) k3 rfl
  have e5:=cell_lt d5_0
  replace hE:=Lib.hid hE
  replace hb0:=Lib.hid hb0
  replace k1:=Lib.hid k1
  replace k2:=Lib.hid k2
  replace k3:=Lib.hid k3
  go_wp2_with (refine HCX.out.mono ?_;rintro e w' hR;obtain ⟨v',F',rfl,hX,hp,hbn,hsub,hnF,hbq⟩:=hR.tail (G:=F) (w.heap.size) hE.out (heap_lt hb0.out) hnF0 (fun j h => .inl h);refine Hid.out ?_)
  refine Lib.hid ?_
  replace hE:=hE.out
  replace hb0:=hb0.out
  replace k1:=k1.out
  replace k2:=k2.out
  replace k3:=k3.out
  clear d4_0 e4 d5_0 e5
  have hbx:=hbq.trans hb0
  clear hbq hR
  clear hE hb0 k1 k2 k3 hD hF
  obtain ⟨y0,y1,a2,fn2,rfl,HFN,HX⟩:=tlR hp hX hbx hbn hsub hnF (by omega)
  obtain ⟨c0,c1,c2,c3,c4,c5,c6,c7,cz,ll⟩:=eit_of hbx
  clear hX hbx hp hbn hsub hnF
  rcases HFN.out with rfl | ⟨g',caps',rfl⟩
  all_goals
   go_wp2
   clear c0 c1 c2 c3 c4 c5 c6 c7 cz ll
   obtain ⟨hX,hB,hP⟩:=HX.out
   clear HX
   generalize (World.setCell _ (⟨w.heap.size,7,none⟩ : Addr) _) = Z at hX hB hP ⊢
   obtain ⟨c0,c1,c2,c3,c4,c5,c6,c7,cz,ll⟩:=eit_of hB
   exact bodyPost_ret (by simp only [results,Tryz.results197,go_sem];simp [go_sem,c0,c1,c2,c3,c4,c5,c6,c7]) rfl ⟨_,F',rfl,hX,hP⟩
 ·have eT:wg1T h.g yes no x = no:=by unfold wg1T;rw [hz,if_neg hx]
  rw [eT]
  have hne:(U x != U z) = true:=bne_iff_ne.2 fun e => hx (U_inj e)
  clear eT hx hz
  have qk1:=heap_lt k1
  have d1_0:=cell_at (o:=0) k1 rfl
  have d1_1:=cell_at (o:=1) k1 rfl
  have d1_2:=cell_at (o:=2) k1 rfl
  have e1:=cell_lt d1_0
  have qk2:=heap_lt k2
  have d2_0:=cell_at (o:=0) k2 rfl
  have e2:=cell_lt d2_0
  have qk3:=heap_lt k3
  have d3_0:=cell_at (o:=0) k3 rfl
  have e3:=cell_lt d3_0
  replace k1:=Lib.hid k1
  replace k2:=Lib.hid k2
  replace k3:=Lib.hid k3
  replace hD:=Lib.hid hD
  replace hF:=Lib.hid hF
  go_enter Tryz.func197,Tryz.ntmps197
  go_wp2_with (go_at_call 198;refine Hid.out ?_)
  refine Lib.hid ?_
  have ⟨hE,hb0,hW⟩:=al1 w (.cells #[.int .i64 0,.int .u64 0,.int .i64 0,.int .i64 0,.int .u64 0,.int .u64 0,.nilFunc,.pointer none] 99)
  generalize (w.alloc (.cells #[.int .i64 0,.int .u64 0,.int .i64 0,.int .i64 0,.int .u64 0,.int .u64 0,.nilFunc,.pointer none] 99)) = W at hE hb0 hW ⊢
  replace k1:=(hE.block _ (heap_lt k1.out)).trans k1.out
  replace k2:=(hE.block _ (heap_lt k2.out)).trans k2.out
  replace k3:=(hE.block _ (heap_lt k3.out)).trans k3.out
  clear hW
  clear d1_0 d1_1 d1_2 e1 d2_0 e2 d3_0 e3
  refine (cgr_any h.i h.g h.t W).mono ?_
  rintro e w1 ⟨rfl,hx⟩
  replace hE:=ext_trans hE hx
  replace hb0:=(hx.block _ (heap_lt hb0)).trans hb0
  replace k1:=(hx.block _ (heap_lt k1)).trans k1
  replace k2:=(hx.block _ (heap_lt k2)).trans k2
  replace k3:=(hx.block _ (heap_lt k3)).trans k3
  clear hx
  replace hE:=Lib.hid hE
  replace hb0:=Lib.hid hb0
  replace k1:=Lib.hid k1
  replace k2:=Lib.hid k2
  replace k3:=Lib.hid k3
  go_wp2_with (go_at_call 22;refine Hid.out ?_)
  refine Lib.hid ?_
  replace hE:=hE.out
  replace hb0:=hb0.out
  replace k1:=k1.out
  replace k2:=k2.out
  replace k3:=k3.out
  refine (hD.out w1).mono ?_
  rintro e w2 ⟨rfl,hx⟩
  replace hE:=ext_trans hE hx
  replace hb0:=(hx.block _ (heap_lt hb0)).trans hb0
  replace k1:=(hx.block _ (heap_lt k1)).trans k1
  replace k2:=(hx.block _ (heap_lt k2)).trans k2
  replace k3:=(hx.block _ (heap_lt k3)).trans k3
  clear hx
  have HCX:=Lib.hid (HN1.out w2 (Agr.of_ext hE hF.out))
  have hnF0:¬ F w.heap.size:=fun h => by have:=hF.out _ h;omega
  have d4_0:=cell_at (o:=0) k2 rfl
  have e4:=cell_lt d4_0
  have d5_0:=cell_at (o:=0) k3 rfl
  have e5:=cell_lt d5_0
  replace hE:=Lib.hid hE
  replace hb0:=Lib.hid hb0
  replace k1:=Lib.hid k1
  replace k2:=Lib.hid k2
  replace k3:=Lib.hid k3
  go_wp2_with (refine HCX.out.mono ?_;rintro e w' hR;obtain ⟨v',F',rfl,hX,hp,hbn,hsub,hnF,hbq⟩:=hR.tail (G:=F) (w.heap.size) hE.out (heap_lt hb0.out) hnF0 (fun j h => .inl h);refine Hid.out ?_)
  refine Lib.hid ?_
  replace hE:=hE.out
  replace hb0:=hb0.out
  replace k1:=k1.out
  replace k2:=k2.out
  replace k3:=k3.out
  clear d4_0 e4 d5_0 e5
  have hbx:=hbq.trans hb0
  clear hbq hR
  clear hE hb0 k1 k2 k3 hD hF
  obtain ⟨y0,y1,a2,fn2,rfl,HFN,HX⟩:=tlR hp hX hbx hbn hsub hnF (by omega)
  obtain ⟨c0,c1,c2,c3,c4,c5,c6,c7,cz,ll⟩:=eit_of hbx
  clear hX hbx hp hbn hsub hnF
  rcases HFN.out with rfl | ⟨g',caps',rfl⟩
  all_goals
   go_wp2
   clear c0 c1 c2 c3 c4 c5 c6 c7 cz ll
   obtain ⟨hX,hB,hP⟩:=HX.out
   clear HX
   generalize (World.setCell _ (⟨w.heap.size,7,none⟩ : Addr) _) = Z at hX hB hP ⊢
   obtain ⟨c0,c1,c2,c3,c4,c5,c6,c7,cz,ll⟩:=eit_of hB
   exact bodyPost_ret (by simp only [results,Tryz.results197,go_sem];simp [go_sem,c0,c1,c2,c3,c4,c5,c6,c7]) rfl ⟨_,F',rfl,hX,hP⟩
theorem wg1_CT (h:Hn) (yes no:Tr Rz) (F:Nat → Prop) (g1:FuncId) (caps1:Array Value) (g2:FuncId) (caps2:Array Value) (B1 B2 B3:Nat) (w:World) (hN:AR no F (.func (.func g1) #[] caps1) w) (hY:AR yes F (.func (.func g2) #[] caps2) w) (hF:Bnd F w) (k1:w.heap[B1]? = some (.cells #[.int .i64 h.i,.int .i64 h.g,.int .i64 h.t] 107 (0,0))) (k2:w.heap[B2]? = some (.cells #[.func (.func g1) #[] caps1] 212 (0,0))) (k3:w.heap[B3]? = some (.cells #[.func (.func g2) #[] caps2] 212 (0,0))) :
  CT kU kR (wg1T h.g yes no) (fun j => F j ∨ j = B1 ∨ j = B2 ∨ j = B3) (.func (.func 197) #[] #[.pointer (some ⟨B1,0,none⟩),.pointer (some ⟨B2,0,none⟩),.pointer (some ⟨B3,0,none⟩)]) w:=by
 refine ⟨_,_,rfl,enters_of Tryz.func197 (by kernel_rfl) rfl,fun x w' ha => ?_⟩
 have hFw:Agr F w w':=ha.sub fun j h => .inl h
 exact (wg1_PT h yes no x F g1 caps1 g2 caps2 B1 B2 B3 w' (hN.agr hFw) (hY.agr hFw) ((ha B1 (.inr (.inl rfl))).trans k1) ((ha B2 (.inr (.inr (.inl rfl)))).trans k2) ((ha B3 (.inr (.inr (.inr rfl)))).trans k3) (hF.agr hFw)).mono fun _ _ h => h.mono fun j h => .inl h
theorem wg_PT (s:Se) (h:Hn) (yes no:Tr Rz) (F:Nat → Prop) (g1:FuncId) (caps1:Array Value) (g2:FuncId) (caps2:Array Value) (w:World) (hN:AR no F (.func (.func g1) #[] caps1) w) (hY:AR yes F (.func (.func g2) #[] caps2) w)  (hF:Bnd F w) :
  Calls Tryz.prog 125 #[seV s,hnV h,.func (.func g2) #[] caps2,.func (.func g1) #[] caps1] w (RetP (PT kR (wgT s.p h yes no)) F w):=by
 replace hN:=Lib.hid hN
 replace hY:=Lib.hid hY
 go_enter Tryz.func125,Tryz.ntmps125
 go_wp2_with (go_at_call 21;refine Hid.out ?_)
 refine Lib.hid ?_
 have ⟨hE,hb0,hb1,hb2,hb3,hb4,hW⟩:=al5 w (.cells #[.int .i64 s.p.n,.int .i64 s.p.t,.int .i64 s.p.r,.int .i64 s.p.d,.int .i64 s.p.b,.int .i64 s.p.g,.int .i64 s.tn,.int .i64 s.th] 82) (.cells #[.int .i64 h.i,.int .i64 h.g,.int .i64 h.t] 107) (.cells #[.func (.func g2) #[] caps2] 212) (.cells #[.func (.func g1) #[] caps1] 212) (.cells #[.int .i64 0,.int .u64 0,.int .i64 0,.int .i64 0,.int .u64 0,.int .u64 0,.nilFunc,.pointer none] 99)
 generalize (((((w.alloc (.cells #[.int .i64 s.p.n,.int .i64 s.p.t,.int .i64 s.p.r,.int .i64 s.p.d,.int .i64 s.p.b,.int .i64 s.p.g,.int .i64 s.tn,.int .i64 s.th] 82)).alloc (.cells #[.int .i64 h.i,.int .i64 h.g,.int .i64 h.t] 107)).alloc (.cells #[.func (.func g2) #[] caps2] 212)).alloc (.cells #[.func (.func g1) #[] caps1] 212)).alloc (.cells #[.int .i64 0,.int .u64 0,.int .i64 0,.int .i64 0,.int .u64 0,.int .u64 0,.nilFunc,.pointer none] 99)) = W at hE hb0 hb1 hb2 hb3 hb4 hW ⊢
 clear hW
 refine (state_any s.p h.i W).mono ?_
 rintro e w1 ⟨rfl,hx⟩
 replace hE:=ext_trans hE hx
 replace hb0:=(hx.block _ (heap_lt hb0)).trans hb0
 replace hb1:=(hx.block _ (heap_lt hb1)).trans hb1
 replace hb2:=(hx.block _ (heap_lt hb2)).trans hb2
 replace hb3:=(hx.block _ (heap_lt hb3)).trans hb3
 replace hb4:=(hx.block _ (heap_lt hb4)).trans hb4
 clear hx
 replace hE:=Lib.hid hE
 replace hb0:=Lib.hid hb0
 replace hb1:=Lib.hid hb1
 replace hb2:=Lib.hid hb2
 replace hb3:=Lib.hid hb3
 replace hb4:=Lib.hid hb4
 go_wp2_with (go_at_call 117;refine Hid.out ?_)
 refine Lib.hid ?_
 replace hE:=hE.out
 replace hb0:=hb0.out
 replace hb1:=hb1.out
 replace hb2:=hb2.out
 replace hb3:=hb3.out
 replace hb4:=hb4.out
 refine (get_PT (s.p.stF h.i) w1).mono ?_
 rintro e w2 ⟨v1,F1,rfl,hx,hp1,hbn1,hsub⟩
 have hn1:¬ F1 (w.heap.size+1+1+1+1):=fun h => (hsub _ h).elim (fun h => h) fun h => by have:=heap_lt hb4;omega
 have hs1:∀ j,F1 j → noF j ∨ w.heap.size ≤ j:=fun j hj => (hsub j hj).imp_right fun h => Nat.le_trans hE.size h
 replace hE:=ext_trans hE hx
 replace hb0:=(hx.block _ (heap_lt hb0)).trans hb0
 replace hb1:=(hx.block _ (heap_lt hb1)).trans hb1
 replace hb2:=(hx.block _ (heap_lt hb2)).trans hb2
 replace hb3:=(hx.block _ (heap_lt hb3)).trans hb3
 replace hb4:=(hx.block _ (heap_lt hb4)).trans hb4
 clear hx hsub
 replace hE:=Lib.hid hE
 replace hb0:=Lib.hid hb0
 replace hb1:=Lib.hid hb1
 replace hb2:=Lib.hid hb2
 replace hb3:=Lib.hid hb3
 replace hb4:=Lib.hid hb4
 replace hp1:=Lib.hid hp1
 replace hbn1:=Lib.hid hbn1
 replace hs1:=Lib.hid hs1
 replace hn1:=Lib.hid hn1
 go_wp2_with (go_at_call 182;refine Hid.out ?_)
 refine Lib.hid ?_
 replace hE:=hE.out
 replace hb0:=hb0.out
 replace hb1:=hb1.out
 replace hb2:=hb2.out
 replace hb3:=hb3.out
 replace hb4:=hb4.out
 replace hp1:=hp1.out
 replace hbn1:=hbn1.out
 replace hs1:=hs1.out
 replace hn1:=hn1.out
 have hCT:=wg1_CT h yes no F g1 caps1 g2 caps2 (w.heap.size+1) (w.heap.size+1+1+1) (w.heap.size+1+1) w2 (hN.out.agr (Agr.of_ext hE hF)) (hY.out.agr (Agr.of_ext hE hF)) (hF.ext hE.size) hb1 hb3 hb2
 refine (then_UR _ _ F1 _ v1 _ w2 hp1 hCT hbn1 (fun j h => by rcases h with h | rfl | rfl | rfl;exact Nat.lt_of_lt_of_le (hF j h) hE.size;exact heap_lt hb1;exact heap_lt hb3;exact heap_lt hb2)).mono ?_
 rintro e w' hR
 obtain ⟨v',F',rfl,hX,hp,hbn,hsub,hnF,hbq⟩:=hR.tail (G:=F) (w.heap.size+1+1+1+1) hE (heap_lt hb4) (fun h => by rcases h with h | h | h | h | h;exact hn1 h;(have:=hF _ h;omega);omega;omega;omega) (fun j h => by rcases h with h | h | h | h | h;exact (hs1 j h).imp_left False.elim;exact .inl (h);exact .inr (by omega);exact .inr (by omega);exact .inr (by omega))
 have hbx:=hbq.trans hb4
 clear hbq hR
 clear hE hb0 hb1 hb2 hb3 hb4 hp1 hbn1 hs1 hn1 hN hY hCT
 obtain ⟨y0,y1,a2,fn2,rfl,HFN,HX⟩:=tlR hp hX hbx hbn hsub hnF (by omega)
 obtain ⟨c0,c1,c2,c3,c4,c5,c6,c7,cz,ll⟩:=eit_of hbx
 clear hX hbx hp hbn hsub hnF
 rcases HFN.out with rfl | ⟨g',caps',rfl⟩
 all_goals
  go_wp2
  clear c0 c1 c2 c3 c4 c5 c6 c7 cz ll
  obtain ⟨hX,hB,hP⟩:=HX.out
  clear HX
  generalize (World.setCell _ (⟨w.heap.size+1+1+1+1,7,none⟩ : Addr) _) = Z at hX hB hP ⊢
  obtain ⟨c0,c1,c2,c3,c4,c5,c6,c7,cz,ll⟩:=eit_of hB
  exact bodyPost_ret (by simp only [results,Tryz.results125,go_sem];simp [go_sem,c0,c1,c2,c3,c4,c5,c6,c7]) rfl ⟨_,F',rfl,hX,hP⟩
theorem wg_any (s:Se) (h:Hn) (yes no:Tr Rz) (F:Nat → Prop) (fy fn:Value) (w:World) (hN:AR no F fn w) (hY:AR yes F fy w) (hF:Bnd F w):Calls Tryz.prog 125 #[seV s,hnV h,fy,fn] w (RetP (PT kR (wgT s.p h yes no)) F w):=by
 obtain ⟨g1,caps1,rfl,a1,b1⟩:=hN
 obtain ⟨g2,caps2,rfl,a2,b2⟩:=hY
 exact wg_PT s h yes no F g1 caps1 g2 caps2 w ⟨_,_,rfl,a1,b1⟩ ⟨_,_,rfl,a2,b2⟩ hF
end Go.Proofs.YthjklbonebnekaaGreat

