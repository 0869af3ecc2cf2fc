/-
  What the calls of Then come to (NS). Conditions: those of each theorem.
-/
import Derived.Test.YthjklbonebnekaaGreatGao
import Derived.Test.YthjklbonebnekaaGreatGar
import Derived.Test.YthjklbonebnekaaGreatGav
import Derived.Test.YthjklbonebnekaaGreatGaw
import Derived.Test.YthjklbonebnekaaGreatGbb
import Derived.Test.YthjklbonebnekaaGreatGbe
set_option maxRecDepth 8000
set_option maxHeartbeats 4000000
namespace Go.Proofs.YthjklbonebnekaaGreat
open Go Go.RowKit
theorem thenDNS (r:Unit) (a:Acc) (f:Unit → Tr (St)) (F:Nat → Prop) (fn:Value) (w:World) (hC:CT kN kS f F fn w) (hF:Bnd F w) :
  Calls Tryz.prog 154 #[.agg #[.int .i64 a.op,.int .i64 a.at_,.int .u64 (U a.a),.int .u64 (U a.b),.nilFunc,.pointer none],fn] w (RetP (PT kS (f r)) F w):=by
 obtain ⟨g,caps,rfl,hg,hc⟩:=hC
 have HN:=Lib.hid hc
 unfold Enters at hg
 clear hc
 go_enter Tryz.func154,Tryz.ntmps154
 go_wp2_with (go_at_call 135;refine (overYN a.op a.at_ (U a.a) (U a.b) _).mono ?_;rintro e w1 ⟨rfl,hx⟩;refine Hid.out ?_)
 refine Lib.hid ?_
 have hb2:=(hx.block (w.heap.size+1) (by simp)).trans ((Below.heap_alloc _ _ _ (by simp)).trans (heap_at (w.alloc (.cells #[.int .i64 a.op,.int .i64 a.at_,.int .u64 (U a.a),.int .u64 (U a.b),.nilFunc,.pointer none] 137)) _ _ (by simp)))
 have hb3:=(hx.block (w.heap.size+1+1) (by simp)).trans (heap_at ((w.alloc (.cells #[.int .i64 a.op,.int .i64 a.at_,.int .u64 (U a.a),.int .u64 (U a.b),.nilFunc,.pointer none] 137)).alloc (.cells #[.func (.func g) #[] caps] 237)) _ _ (by simp))
 have hE:Ext w w1:=ext_trans (ext_alloc _ (ext_alloc _ (ext_alloc _ (ext_refl w)))) hx
 have hs1:w.heap.size+1+1 < w1.heap.size:=heap_lt hb3
 have k0:=cell_at (o:=0) hb2 rfl
 have l0:=heap_lt hb2
 have HE:=Lib.hid (ext_alloc (.cells #[] 132) hE)
 have HB3:=Lib.hid ((Below.heap_alloc _ (.cells #[] 132) _ hs1).trans hb3)
 have hsa:(w1.alloc (.cells #[] 132)).heap.size = w1.heap.size+1:=by simp
 have HCX:=Lib.hid (HN.out r (w1.alloc (.cells #[] 132)) (Agr.of_ext HE.out hF))
 simp only [kN] at HCX
 clear hx hb2 hb3 hE HN
 go_wp2_with (refine HCX.out.mono ?_;rintro e2 w2 ⟨v',F',rfl,hx,hp,hbn,hsub⟩;refine Hid.out ?_)
 refine Lib.hid ?_
 have hbx:=(hx.block _ (heap_lt HB3.out)).trans HB3.out
 have hnF:¬ F' (w.heap.size+1+1):=fun h => by
  rcases hsub _ h with h | h
  ·have:=hF _ h;omega
  ·omega
 obtain ⟨y0,y1,y2,a2,fn2,rfl,HFN,HX⟩:=tlS hp (ext_trans HE.out hx) hbx hbn (fun j hj => (hsub j hj).imp_right fun h => (by omega:w.heap.size ≤ j)) hnF (by omega)
 obtain ⟨c0,c1,c2,c3,c4,c5,c6,c7,c8,cz,ll⟩:=nin_of hbx
 clear hx hbx hp hbn hsub hnF HCX HE HB3
 rcases HFN.out with rfl | ⟨g',caps',rfl⟩
 all_goals
  go_wp2
  clear c0 c1 c2 c3 c4 c5 c6 c7 c8 cz ll
  obtain ⟨hX,hB,hP⟩:=HX.out
  clear HX
  generalize (World.setCell _ (⟨w.heap.size+1+1,8,none⟩ : Addr) _) = Z at hX hB hP ⊢
  obtain ⟨c0,c1,c2,c3,c4,c5,c6,c7,c8,cz,ll⟩:=nin_of hB
  exact bodyPost_ret (by simp only [results,Tryz.results154,go_sem];simp [go_sem,c0,c1,c2,c3,c4,c5,c6,c7,c8]) rfl ⟨_,F',rfl,hX,hP⟩
theorem thenANS (a:Acc) (g0:FuncId) (caps0:Array Value) (g:FuncId) (caps:Array Value) (w:World) :
  Calls Tryz.prog 154 #[.agg #[.int .i64 a.op,.int .i64 a.at_,.int .u64 (U a.a),.int .u64 (U a.b),.func (.func g0) #[] caps0,.pointer none],.func (.func g) #[] caps] w fun e w' => e = .returned (.agg #[.int .i64 0,.int .i64 0,.int .i64 0,.int .i64 a.op,.int .i64 a.at_,.int .u64 (U a.a),.int .u64 (U a.b),.func (.func 224) #[] #[.pointer (some ⟨w.heap.size,0,none⟩),.pointer (some ⟨w.heap.size+1,0,none⟩)],.pointer none]) ∧ Ext w w' ∧ w'.heap[w.heap.size]? = some (.cells #[.int .i64 a.op,.int .i64 a.at_,.int .u64 (U a.a),.int .u64 (U a.b),.func (.func g0) #[] caps0,.pointer none] 137 (0,0)) ∧ w'.heap[w.heap.size+1]? = some (.cells #[.func (.func g) #[] caps] 237 (0,0)):=by
 go_enter Tryz.func154,Tryz.ntmps154
 go_wp2_with (go_at_call 135;refine (ovnN a _ _ _ _).mono ?_;rintro e w1 ⟨rfl,hx⟩;refine Hid.out ?_)
 refine Lib.hid ?_
 have hb1:=(hx.block w.heap.size (by simp;omega)).trans ((Below.heap_alloc _ _ _ (by simp;omega)).trans ((Below.heap_alloc _ _ _ (by simp)).trans (heap_at w (.cells #[.int .i64 a.op,.int .i64 a.at_,.int .u64 (U a.a),.int .u64 (U a.b),.func (.func g0) #[] caps0,.pointer none] 137) _ rfl)))
 have hb2:=(hx.block (w.heap.size+1) (by simp)).trans ((Below.heap_alloc _ _ _ (by simp)).trans (heap_at (w.alloc (.cells #[.int .i64 a.op,.int .i64 a.at_,.int .u64 (U a.a),.int .u64 (U a.b),.func (.func g0) #[] caps0,.pointer none] 137)) _ _ (by simp)))
 have hb3:=(hx.block (w.heap.size+1+1) (by simp)).trans (heap_at ((w.alloc (.cells #[.int .i64 a.op,.int .i64 a.at_,.int .u64 (U a.a),.int .u64 (U a.b),.func (.func g0) #[] caps0,.pointer none] 137)).alloc (.cells #[.func (.func g) #[] caps] 237)) _ _ (by simp))
 have hE:Ext w w1:=ext_trans (ext_alloc _ (ext_alloc _ (ext_alloc _ (ext_refl w)))) hx
 obtain ⟨d0,d1,d2,d3,d4,d5,dz,dl⟩:=six_of hb1
 have hX:=put9_ext (b:=w.heap.size+1+1) (.int .i64 0) (.int .i64 0) (.int .i64 0) (.int .i64 a.op) (.int .i64 a.at_) (.int .u64 (U a.a)) (.int .u64 (U a.b)) (.func (.func 224) #[] #[.pointer (some ⟨w.heap.size,0,none⟩),.pointer (some ⟨w.heap.size+1,0,none⟩)]) (.pointer none) hE (by omega)
 have hB:=put9_block (.int .i64 0) (.int .i64 0) (.int .i64 0) (.int .i64 a.op) (.int .i64 a.at_) (.int .u64 (U a.a)) (.int .u64 (U a.b)) (.func (.func 224) #[] #[.pointer (some ⟨w.heap.size,0,none⟩),.pointer (some ⟨w.heap.size+1,0,none⟩)]) (.pointer none) hb3
 have hA1:=(put9_other (w:=w1) (b:=w.heap.size+1+1) (k:=w.heap.size) (.int .i64 0) (.int .i64 0) (.int .i64 0) (.int .i64 a.op) (.int .i64 a.at_) (.int .u64 (U a.a)) (.int .u64 (U a.b)) (.func (.func 224) #[] #[.pointer (some ⟨w.heap.size,0,none⟩),.pointer (some ⟨w.heap.size+1,0,none⟩)]) (.pointer none) (by omega)).trans hb1
 have hA2:=(put9_other (w:=w1) (b:=w.heap.size+1+1) (k:=w.heap.size+1) (.int .i64 0) (.int .i64 0) (.int .i64 0) (.int .i64 a.op) (.int .i64 a.at_) (.int .u64 (U a.a)) (.int .u64 (U a.b)) (.func (.func 224) #[] #[.pointer (some ⟨w.heap.size,0,none⟩),.pointer (some ⟨w.heap.size+1,0,none⟩)]) (.pointer none) (by omega)).trans hb2
 obtain ⟨c0,c1,c2,c3,c4,c5,c6,c7,c8,cz,ll⟩:=nin_of hb3
 rw [put9] at hX hB hA1 hA2
 have HX:=Lib.hid (And.intro hX (And.intro hB (And.intro hA1 hA2)))
 clear hX hB hA1 hA2 hb1 hb2 hb3 hE hx
 go_wp2
 clear c0 c1 c2 c3 c4 c5 c6 c7 c8 cz ll
 obtain ⟨hX,hB,hA1,hA2⟩:=HX.out
 clear HX
 generalize (World.setCell _ (⟨w.heap.size+1+1,8,none⟩ : Addr) _) = Z at hX hB hA1 hA2 ⊢
 replace hX:=ext_alloc (.cells #[] 132) hX
 replace hB:=(Below.heap_alloc Z (.cells #[] 132) _ (heap_lt hB)).trans hB
 replace hA1:=(Below.heap_alloc Z (.cells #[] 132) _ (heap_lt hA1)).trans hA1
 replace hA2:=(Below.heap_alloc Z (.cells #[] 132) _ (heap_lt hA2)).trans hA2
 generalize Z.alloc (.cells #[] 132) = Y at hX hB hA1 hA2 ⊢
 obtain ⟨c0,c1,c2,c3,c4,c5,c6,c7,c8,cz,ll⟩:=nin_of hB
 exact bodyPost_ret (by simp only [results,Tryz.results154,go_sem];simp [go_sem,c0,c1,c2,c3,c4,c5,c6,c7,c8]) rfl ⟨rfl,hX,hA1,hA2⟩
theorem then1NS {t:Tr (Unit)} {t2:Tr (St)} (a:Acc) (g0:FuncId) (caps0:Array Value) (g:FuncId) (caps:Array Value) (F G:Nat → Prop) (x:BitVec 64) (B1 B2:Nat) (w:World) (he:Enters g0) (hF:Bnd F w) (hG:Bnd G w)
  (k1:w.heap[B1]? = some (.cells #[.int .i64 a.op,.int .i64 a.at_,.int .u64 (U a.a),.int .u64 (U a.b),.func (.func g0) #[] caps0,.pointer none] 137 (0,0))) (k2:w.heap[B2]? = some (.cells #[.func (.func g) #[] caps] 237 (0,0)))
  (hN:∀ W,Ext w W → Calls Tryz.prog g0 (#[.int .u64 (U x)] ++ caps0) W (RetP (PT kN t) F W))
  (hT:∀ v F1 W,Ext w W → PT kN t F1 v W → Bnd F1 W → Calls Tryz.prog 154 #[v,.func (.func g) #[] caps] W (RetP (PT kS t2) (fun j => F1 j ∨ G j) W)) :
  Calls Tryz.prog 224 #[.int .u64 (U x),.pointer (some ⟨B1,0,none⟩),.pointer (some ⟨B2,0,none⟩)] w (RetP (PT kS t2) (fun j => F j ∨ G j) w):=by
 have HN:=Lib.hid hN
 have HT:=Lib.hid hT
 unfold Enters at he
 have q1:=cell_at (o:=4) k1 rfl
 have q2:=cell_at (o:=0) k2 rfl
 have l1:=cell_lt q1
 have l2:=cell_lt q2
 clear hN hT k1 k2
 go_enter Tryz.func224,Tryz.ntmps224
 go_wp2
 have m1:=ext_cell (ext_alloc (.cells #[.int .i64 0,.int .i64 0,.int .i64 0,.int .i64 0,.int .i64 0,.int .u64 0,.int .u64 0,.nilFunc,.pointer none] 153) (ext_refl w)) q1
 have m2:=ext_cell (ext_alloc (.cells #[.int .i64 0,.int .i64 0,.int .i64 0,.int .i64 0,.int .i64 0,.int .u64 0,.int .u64 0,.nilFunc,.pointer none] 153) (ext_refl w)) q2
 have hE:Ext w (w.alloc (.cells #[.int .i64 0,.int .i64 0,.int .i64 0,.int .i64 0,.int .i64 0,.int .u64 0,.int .u64 0,.nilFunc,.pointer none] 153)):=ext_alloc _ (ext_refl w)
 have hb:=heap_at w (.cells #[.int .i64 0,.int .i64 0,.int .i64 0,.int .i64 0,.int .i64 0,.int .u64 0,.int .u64 0,.nilFunc,.pointer none] 153) w.heap.size rfl
 have hW:(w.alloc (.cells #[.int .i64 0,.int .i64 0,.int .i64 0,.int .i64 0,.int .i64 0,.int .u64 0,.int .u64 0,.nilFunc,.pointer none] 153)).heap.size = w.heap.size+1:=by simp
 generalize w.alloc (.cells #[.int .i64 0,.int .i64 0,.int .i64 0,.int .i64 0,.int .i64 0,.int .u64 0,.int .u64 0,.nilFunc,.pointer none] 153) = W at m1 m2 hE hb hW ⊢
 have n1:=cell_lt m1
 have n2:=cell_lt m2
 have HE:=Lib.hid hE
 have HB:=Lib.hid hb
 have HW:=Lib.hid hW
 clear hE hb hW
 refine wp_region_mix (fun w' => ∃ s,w' = over W s) [(0,[0,1,2,4]),(1,[3]),(1,[5]),(2,[6])] (by kernel_rfl) (by kernel_rfl) (over_of (ext_drew (ext_refl W))) ?_
 simp only [pieces,pickL,List.map_cons,List.map_nil,List.getD_cons_zero,List.getD_cons_succ]
 refine mix_reads ?_
 repeat (go_big_quiet_step (fail))
 refine wpQuiet_nil (mix_acts ?_)
 have HCX:=Lib.hid (HN.out W.drew (ext_drew HE.out))
 go_wp2_with (refine HCX.out.mono ?_;rintro e w1 ⟨v1,F1,rfl,hx1,hp1,hbn1,hsub1⟩;refine Hid.out ?_)
 refine Lib.hid ?_
 have HX1:=Lib.hid (ext_trans (ext_drew (ext_refl W)) hx1)
 have HT1:=Lib.hid (HT.out v1 F1 w1 (ext_trans HE.out HX1.out) hp1 hbn1)
 have HS1:=Lib.hid hsub1
 clear hx1 hp1 hbn1 hsub1 HCX HN HT
 go_wp2
 refine mixQ_mk (over_of HX1.out) (mix_acts ?_)
 go_wp2_with (go_at_call 154;refine HT1.out.mono ?_;rintro e w2 ⟨v2,F2,rfl,hx2,hp2,hbn2,hsub2⟩;refine Hid.out ?_)
 refine Lib.hid ?_
 have HX2:=Lib.hid (ext_trans HX1.out hx2)
 have hsub:∀ j,F2 j → (F j ∨ G j) ∨ w.heap.size+1 ≤ j:=fun j hj => by
  have h1:=HX1.out.size
  have h2:=HW.out
  rcases hsub2 j hj with (h | h) | h
  ·rcases HS1.out j h with h | h
   ·exact .inl (.inl h)
   ·have h3:W.drew.heap.size = W.heap.size:=rfl
    exact .inr (by omega)
  ·exact .inl (.inr h)
  ·exact .inr (by omega)
 have hnF:¬ F2 w.heap.size:=fun h => by
  rcases hsub _ h with (h | h) | h
  ·have:=hF _ h;omega
  ·have:=hG _ h;omega
  ·omega
 have hbx:=(HX2.out.block _ (heap_lt HB.out)).trans HB.out
 obtain ⟨y0,y1,y2,a2,fn2,rfl,HFN,HX⟩:=tlS hp2 (ext_trans HE.out HX2.out) hbx hbn2 (fun j hj => (hsub j hj).imp_right fun h => (by omega:w.heap.size ≤ j)) hnF (Nat.le_refl _)
 have HBX:=Lib.hid hbx
 clear hx2 hp2 hbn2 hsub2 hsub hnF hbx HT1 HS1
 go_wp2
 refine mixQ_mk (over_of HX2.out) (mix_late ?_)
 obtain ⟨c0,c1,c2,c3,c4,c5,c6,c7,c8,cz,ll⟩:=nin_of HBX.out
 clear HBX
 rcases HFN.out with rfl | ⟨g',caps',rfl⟩
 all_goals
  go_wp2
  refine lateQ_mk (fun _ => True) trivial (mix_end ?_)
  clear c0 c1 c2 c3 c4 c5 c6 c7 c8 cz ll
  obtain ⟨hX,hB,hP⟩:=HX.out
  clear HX
  generalize (World.setCell _ (⟨w.heap.size,8,none⟩ : Addr) _) = Z at hX hB hP ⊢
  obtain ⟨c0,c1,c2,c3,c4,c5,c6,c7,c8,cz,ll⟩:=nin_of hB
  go_wp2
  exact bodyPost_ret (by simp only [results,Tryz.results224,go_sem];simp [go_sem,c0,c1,c2,c3,c4,c5,c6,c7,c8]) rfl ⟨_,F2,rfl,hX,hP⟩
theorem thenM_NS (F:Nat → Prop) (v:Value) (g:FuncId) (caps:Array Value) (w:World) (hP:PT kN .more F v w):Calls Tryz.prog 154 #[v,.func (.func g) #[] caps] w (RetP (PT kS .more) noF w):=by
 obtain ⟨a,g0,caps0,rfl,he⟩:=hP
 refine (thenANS a g0 caps0 g caps w).mono ?_
 rintro e w' ⟨rfl,hx,h1,h2⟩
 exact ⟨_,noF,rfl,hx,⟨a,_,_,rfl,enters_of Tryz.func224 (by kernel_rfl) rfl⟩,fun _ h => h.elim,fun _ h => h.elim⟩
theorem then_NS:∀ (t:Tr (Unit)) (f:Unit → Tr (St)) (F G:Nat → Prop) (v fn:Value) (w:World),PT kN t F v w → CT kN kS f G fn w → Bnd F w → Bnd G w →
  Calls Tryz.prog 154 #[v,fn] w (RetP (PT kS (t.bind f)) (fun j => F j ∨ G j) w)
 | .done r,f,F,G,v,fn,w,hP,hC,hF,hG => by
  cases hP
  exact (thenDNS r accZ f G fn w hC hG).mono fun e w' h => h.mono fun j hj => .inr hj
 | .more,f,F,G,v,fn,w,hP,hC,hF,hG => by
  obtain ⟨g,caps,rfl,hg,hc⟩:=hC
  exact (thenM_NS F v g caps w hP).mono fun e w' h => h.mono fun j hj => hj.elim
 | .ask a k,f,F,G,v,fn,w,hP,hC,hF,hG => by
  obtain ⟨g0,caps0,rfl,he,hk⟩:=hP
  obtain ⟨g,caps,rfl,hg,hc⟩:=id hC
  refine (thenANS a g0 caps0 g caps w).mono ?_
  rintro e w' ⟨rfl,hx,h1,h2⟩
  have hs1:=heap_lt h1
  have hs2:=heap_lt h2
  refine ⟨_,fun j => (F j ∨ G j) ∨ j = w.heap.size ∨ j = w.heap.size+1,rfl,hx,⟨_,_,rfl,enters_of Tryz.func224 (by kernel_rfl) rfl,fun x u hu => ?_⟩,?_,?_⟩
  ·have hFu:Agr F w u:=(Agr.of_ext hx hF).trans (hu.sub fun j hj => .inl (.inl hj))
   have hGu:Agr G w u:=(Agr.of_ext hx hG).trans (hu.sub fun j hj => .inl (.inr hj))
   have hu1:=(hu w.heap.size (.inr (.inl rfl))).trans h1
   have hu2:=(hu (w.heap.size+1) (.inr (.inr rfl))).trans h2
   have lt_of:∀ j,j < w.heap.size → u.heap[j]? = w.heap[j]? → j < u.heap.size:=fun j hj e => by
    have h0:w.heap[j]? = some w.heap[j]:=Array.getElem?_eq_getElem hj
    exact heap_lt (e.trans h0)
   have bF:Bnd F u:=fun j hj => lt_of j (hF j hj) (hFu j hj)
   have bG:Bnd G u:=fun j hj => lt_of j (hG j hj) (hGu j hj)
   refine (then1NS a g0 caps0 g caps F G x w.heap.size (w.heap.size+1) u he bF bG hu1 hu2 (fun W hW => hk x W (hFu.trans (Agr.of_ext hW bF))) (fun v' F1 W hW hp hb => then_NS (k x) f F1 G v' _ W hp (hC.agr (hGu.trans (Agr.of_ext hW bG))) hb (bG.ext hW.size))).mono ?_
   exact fun e w'' h => h.mono fun j hj => .inl hj
  ·intro j hj
   rcases hj with (hj | hj) | rfl | rfl
   ·exact Nat.lt_of_lt_of_le (hF j hj) hx.size
   ·exact Nat.lt_of_lt_of_le (hG j hj) hx.size
   ·exact hs1
   ·exact hs2
  ·intro j hj
   rcases hj with hj | rfl | rfl
   ·exact .inl hj
   ·exact .inr (Nat.le_refl _)
   ·exact .inr (Nat.le_succ _)
theorem bec2_PT (s:St) (B1:Nat) (w:World)  (k1:w.heap[B1]? = some (.cells #[.int .i64 s.g,.int .i64 s.m,.int .i64 s.k] 56 (0,0))) :
  Calls Tryz.prog 155 #[.agg #[],.pointer (some ⟨B1,0,none⟩)] w (RetP (PT kS (.done s)) noF w):=by
 have qk1:=heap_lt k1
 have d1_0:=cell_at (o:=0) k1 rfl
 have d1_1:=cell_at (o:=1) k1 rfl
 have d1_2:=cell_at (o:=2) k1 rfl
 have e1:=cell_lt d1_0
 replace k1:=Lib.hid k1
 go_enter Tryz.func155,Tryz.ntmps155
 go_wp2_with (go_at_call 156;refine Hid.out ?_)
 refine Lib.hid ?_
 have ⟨hE,hb0,hb1,hW⟩:=al2 w (.cells #[] 132) (.cells #[.int .i64 0,.int .i64 0,.int .i64 0,.int .i64 0,.int .i64 0,.int .u64 0,.int .u64 0,.nilFunc,.pointer none] 153)
 generalize ((w.alloc (.cells #[] 132)).alloc (.cells #[.int .i64 0,.int .i64 0,.int .i64 0,.int .i64 0,.int .i64 0,.int .u64 0,.int .u64 0,.nilFunc,.pointer none] 153)) = W at hE hb0 hb1 hW ⊢
 replace k1:=(hE.block _ (heap_lt k1.out)).trans k1.out
 clear hW
 clear d1_1 d1_2 d1_0 e1
 refine (doneS_PT s W).mono ?_
 rintro e w' hR
 obtain ⟨v',F',rfl,hX,hp,hbn,hsub,hnF,hbq⟩:=hR.tail (G:=noF) (w.heap.size+1) hE (heap_lt hb1) (fun h => h) (fun _ h => h.elim)
 have hbx:=hbq.trans hb1
 clear hbq hR
 clear hE hb0 hb1 k1
 obtain ⟨y0,y1,y2,a2,fn2,rfl,HFN,HX⟩:=tlS hp hX hbx hbn hsub hnF (by omega)
 obtain ⟨c0,c1,c2,c3,c4,c5,c6,c7,c8,cz,ll⟩:=nin_of hbx
 clear hX hbx hp hbn hsub hnF
 rcases HFN.out with rfl | ⟨g',caps',rfl⟩
 all_goals
  go_wp2
  clear c0 c1 c2 c3 c4 c5 c6 c7 c8 cz ll
  obtain ⟨hX,hB,hP⟩:=HX.out
  clear HX
  generalize (World.setCell _ (⟨w.heap.size+1,8,none⟩ : Addr) _) = Z at hX hB hP ⊢
  obtain ⟨c0,c1,c2,c3,c4,c5,c6,c7,c8,cz,ll⟩:=nin_of hB
  exact bodyPost_ret (by simp only [results,Tryz.results155,go_sem];simp [go_sem,c0,c1,c2,c3,c4,c5,c6,c7,c8]) rfl ⟨_,F',rfl,hX,hP⟩
theorem bec2_CT (s:St) (B1:Nat) (w:World)  (k1:w.heap[B1]? = some (.cells #[.int .i64 s.g,.int .i64 s.m,.int .i64 s.k] 56 (0,0))) :
  CT kN kS (fun _ => .done s) (fun j => j = B1) (.func (.func 155) #[] #[.pointer (some ⟨B1,0,none⟩)]) w:=by
 refine ⟨_,_,rfl,enters_of Tryz.func155 (by kernel_rfl) rfl,fun _ w' ha => ?_⟩
 exact (bec2_PT s  B1 w'  ((ha B1 (rfl)).trans k1)).mono fun _ _ h => h.mono fun j h => h.elim
theorem bec1_PT (p:Pl) (n:Int) (f:St → St) (x:BitVec 64) (F:Nat → Prop) (g:FuncId) (caps:Array Value) (B1 B2 B3:Nat) (w:World) (hA:FS f F (.func (.func g) #[] caps) w) (k1:w.heap[B1]? = some (.cells #[.func (.func g) #[] caps] 149 (0,0))) (k2:PBox B2 p w) (k3:w.heap[B3]? = some (.cells #[.int .i64 n] 3 (0,0))) (hF:Bnd F w) :
  Calls Tryz.prog 153 #[.int .u64 (U x),.pointer (some ⟨B1,0,none⟩),.pointer (some ⟨B2,0,none⟩),.pointer (some ⟨B3,0,none⟩)] w (RetP (PT kS (bec1T p n f x)) noF w):=by
 obtain ⟨s0,hs0⟩ : ∃ s0,ofS x = s0:=⟨_,rfl⟩
 obtain ⟨s1,hs1⟩ : ∃ s1,f s0 = s1:=⟨_,rfl⟩
 have eT:bec1T p n f x = (setT (p.stF n) s1.word).bind fun _ => .done s1:=by unfold bec1T;rw [hs0,hs1]
 rw [eT]
 clear eT
 obtain ⟨g',caps',e,hg,hc⟩:=hA
 cases e
 have hN:=hc s0
 rw [hs1] at hN
 unfold Enters at hg
 clear hc
 obtain ⟨g0,m0,j0⟩:=s0
 obtain ⟨g1,m1,j1⟩:=s1
 have hO:∀ W,Calls Tryz.prog 101 #[.int .u64 (U x)] W (Ret (.tuple #[.agg #[.int .i64 g0,.int .i64 m0,.int .i64 j0],.bool (decide (isW x))]) W):=fun W => by
  have:=of_any x W
  rw [hs0] at this
  exact this
 have hD:∀ W,Calls Tryz.prog 22 #[.agg #[.int .i64 g1,.int .i64 m1,.int .i64 j1]] W (Ret (.int .u64 (U (St.word ⟨g1,m1,j1⟩))) W):=fun W => word_any ⟨g1,m1,j1⟩ W
 clear hs0 hs1
 have qk1:=heap_lt k1
 have d1_0:=cell_at (o:=0) k1 rfl
 have e1:=cell_lt d1_0
 have qk2:=heap_lt k2
 have ⟨c0,c1,c2,c3,c4,c5,lt⟩:=PBox.plc k2
 have qk3:=heap_lt k3
 have d3_0:=cell_at (o:=0) k3 rfl
 have e3:=cell_lt d3_0
 replace k1:=Lib.hid k1
 replace k2:=Lib.hid k2
 replace k3:=Lib.hid k3
 replace hO:=Lib.hid hO
 replace hD:=Lib.hid hD
 replace hN:=Lib.hid hN
 replace hF:=Lib.hid hF
 go_enter Tryz.func153,Tryz.ntmps153
 go_wp2_with (go_at_call 101;refine Hid.out ?_)
 refine Lib.hid ?_
 have ⟨hE,hb0,hW⟩:=al1 w (.cells #[.int .i64 0,.int .i64 0,.int .i64 0,.int .i64 0,.int .i64 0,.int .u64 0,.int .u64 0,.nilFunc,.pointer none] 153)
 generalize (w.alloc (.cells #[.int .i64 0,.int .i64 0,.int .i64 0,.int .i64 0,.int .i64 0,.int .u64 0,.int .u64 0,.nilFunc,.pointer none] 153)) = W at hE hb0 hW ⊢
 replace k1:=(hE.block _ (heap_lt k1.out)).trans k1.out
 replace k2:=(hE.block _ (heap_lt k2.out)).trans k2.out
 replace k3:=(hE.block _ (heap_lt k3.out)).trans k3.out
 clear hW
 clear d1_0 e1 c0 c1 c2 c3 c4 c5 lt d3_0 e3
 refine (hO.out W).mono ?_
 rintro e wa ⟨rfl,hx⟩
 replace hE:=ext_trans hE hx
 replace hb0:=(hx.block _ (heap_lt hb0)).trans hb0
 replace k1:=(hx.block _ (heap_lt k1)).trans k1
 replace k2:=(hx.block _ (heap_lt k2)).trans k2
 replace k3:=(hx.block _ (heap_lt k3)).trans k3
 clear hx
 have d4_0:=cell_at (o:=0) k1 rfl
 have e4:=cell_lt d4_0
 have hsz:=heap_lt hb0
 have HCX:=Lib.hid (hN.out (wa.alloc (.cells #[.int .i64 g0,.int .i64 m0,.int .i64 j0] 56)) (Agr.of_ext (ext_trans hE (ext_alloc _ (ext_refl wa))) hF.out))
 replace hE:=Lib.hid hE
 replace hb0:=Lib.hid hb0
 replace k1:=Lib.hid k1
 replace k2:=Lib.hid k2
 replace k3:=Lib.hid k3
 go_wp2_with (refine HCX.out.mono ?_;rintro e wb ⟨rfl,hx⟩;refine Hid.out ?_)
 refine Lib.hid ?_
 replace hE:=hE.out
 replace hb0:=hb0.out
 replace k1:=k1.out
 replace k2:=k2.out
 replace k3:=k3.out
 clear d4_0 e4
 have hb3:=(hx.block wa.heap.size (by simp)).trans (heap_at wa _ _ rfl)
 replace hx:=ext_trans (ext_alloc _ (ext_refl wa)) hx
 replace hE:=ext_trans hE hx
 replace hb0:=(hx.block _ (heap_lt hb0)).trans hb0
 replace k1:=(hx.block _ (heap_lt k1)).trans k1
 replace k2:=(hx.block _ (heap_lt k2)).trans k2
 replace k3:=(hx.block _ (heap_lt k3)).trans k3
 clear hx HCX
 have hrb:=heap_lt hb0
 have z0:=cell_at (o:=0) hb3 rfl
 have z1:=cell_at (o:=1) hb3 rfl
 have z2:=cell_at (o:=2) hb3 rfl
 have zz:∀ o,wb.frozen? ⟨wa.heap.size,o,none⟩ = false:=fun _ => free_at hb3
 have zl:=heap_lt hb3
 have hX:=put3_ext (b:=wa.heap.size) (.int .i64 g1) (.int .i64 m1) (.int .i64 j1) hE (by omega)
 have hB:=put3_block (.int .i64 g1) (.int .i64 m1) (.int .i64 j1) hb3
 have hq0:=(put3_other (w:=wb) (b:=wa.heap.size) (k:=w.heap.size) (.int .i64 g1) (.int .i64 m1) (.int .i64 j1) (by omega)).trans hb0
 have hq2:=(put3_other (w:=wb) (b:=wa.heap.size) (k:=B2) (.int .i64 g1) (.int .i64 m1) (.int .i64 j1) (by omega)).trans k2
 have hq3:=(put3_other (w:=wb) (b:=wa.heap.size) (k:=B3) (.int .i64 g1) (.int .i64 m1) (.int .i64 j1) (by omega)).trans k3
 rw [put3] at hX hB hq0 hq2 hq3
 have HQ:=Lib.hid (And.intro hX (And.intro hB (And.intro hq0 (And.intro hq2 hq3))))
 clear hX hB hq0 hq2 hq3
 replace hE:=Lib.hid hE
 replace hb0:=Lib.hid hb0
 replace k1:=Lib.hid k1
 replace k2:=Lib.hid k2
 replace k3:=Lib.hid k3
 replace hb3:=Lib.hid hb3
 go_upto_region 3 with (fail)
 clear z0 z1 z2 zz zl hE hb0 hb3 k1 k2 k3
 obtain ⟨hE,hb3,hb0,k2,k3⟩:=HQ.out
 clear HQ
 generalize (World.setCell _ (⟨wa.heap.size,2,none⟩ : Addr) _) = X at hE hb3 hb0 k2 k3 ⊢
 have hsX:=hE.size
 have ⟨c0,c1,c2,c3,c4,c5,lt⟩:=PBox.plc k2
 have d2:=cell_at (o:=0) k3 rfl
 have d3:=cell_at (o:=0) hb3 rfl
 have d4:=cell_at (o:=1) hb3 rfl
 have d5:=cell_at (o:=2) hb3 rfl
 have e2:=cell_lt d2
 have e3:=cell_lt d3
 replace hE:=Lib.hid hE
 replace hb0:=Lib.hid hb0
 replace hb3:=Lib.hid hb3
 replace k2:=Lib.hid k2
 replace k3:=Lib.hid k3
 refine wp_region_mix (fun w' => ∃ s,w' = over X s) [(0,[0,1,3,6]),(1,[2]),(1,[4]),(1,[5]),(1,[7]),(2,[8])] (by kernel_rfl) (by kernel_rfl) (over_of (ext_drew (ext_refl X))) ?_
 simp only [pieces,pickL,List.map_cons,List.map_nil,List.getD_cons_zero,List.getD_cons_succ]
 refine mix_reads ?_
 repeat (go_big_quiet_step (fail))
 refine wpQuiet_nil (mix_acts ?_)
 have HX0:=Lib.hid (ext_drew (ext_refl X))
 go_wp2_with (go_at_call 21;refine (state_any p n _).mono ?_;rintro e w1 ⟨rfl,hx⟩;have HX1:=Lib.hid (ext_trans HX0.out hx);clear hx)
 refine mixQ_mk (over_of HX1.out) (mix_acts ?_)
 go_wp2_with (go_at_call 22;refine (hD.out _).mono ?_;rintro e w2 ⟨rfl,hx⟩;have HX2:=Lib.hid (ext_trans HX1.out hx);clear hx)
 refine mixQ_mk (over_of HX2.out) (mix_acts ?_)
 go_wp2_with (go_at_call 120;refine (set_PT (p.stF n) (St.word ⟨g1,m1,j1⟩) _).mono ?_;rintro e w4 ⟨v1,F1,rfl,hx,hp1,hbn1,hsub1⟩;refine Hid.out ?_)
 refine Lib.hid ?_
 replace hE:=hE.out
 replace hb0:=hb0.out
 replace hb3:=hb3.out
 replace k2:=k2.out
 replace k3:=k3.out
 have hn1:¬ F1 (w.heap.size):=fun h => (hsub1 _ h).elim (fun h => h) fun h => by have:=heap_lt hb0;have:=HX2.out.size;omega
 have hs1:∀ j,F1 j → noF j ∨ w.heap.size ≤ j:=fun j hj => (hsub1 j hj).imp_right fun h => Nat.le_trans (Nat.le_trans hE.size HX2.out.size) h
 have HX4:=Lib.hid (ext_trans HX2.out hx)
 replace hb0:=(HX4.out.block _ (heap_lt hb0)).trans hb0
 replace hb3:=(HX4.out.block _ (heap_lt hb3)).trans hb3
 replace k2:=(HX4.out.block _ (heap_lt k2)).trans k2
 replace k3:=(HX4.out.block _ (heap_lt k3)).trans k3
 replace hE:=ext_trans hE HX4.out
 clear hx hsub1
 replace hE:=Lib.hid hE
 replace hb0:=Lib.hid hb0
 replace hb3:=Lib.hid hb3
 replace k2:=Lib.hid k2
 replace k3:=Lib.hid k3
 replace hp1:=Lib.hid hp1
 replace hbn1:=Lib.hid hbn1
 replace hs1:=Lib.hid hs1
 replace hn1:=Lib.hid hn1
 go_wp2
 refine mixQ_mk (over_of HX4.out) (mix_acts ?_)
 go_wp2_with (go_at_call 154;refine Hid.out ?_)
 refine Lib.hid ?_
 replace hE:=hE.out
 replace hb0:=hb0.out
 replace hb3:=hb3.out
 replace k2:=k2.out
 replace k3:=k3.out
 replace hp1:=hp1.out
 replace hbn1:=hbn1.out
 replace hs1:=hs1.out
 replace hn1:=hn1.out
 have hCT:=bec2_CT ⟨g1,m1,j1⟩ wa.heap.size w4 hb3
 refine (then_NS _ _ F1 _ v1 _ w4 hp1 hCT hbn1 (fun j h => by subst h;exact heap_lt hb3)).mono ?_
 rintro e w' hR
 have HXZ:=Lib.hid (ext_trans HX4.out hR.ext)
 obtain ⟨v',F',rfl,hX,hp,hbn,hsub,hnF,hbq⟩:=hR.tail (G:=noF) (w.heap.size) hE (heap_lt hb0) (fun h => by rcases h with h | h;exact hn1 h;omega) (fun j h => by rcases h with h | h;exact hs1 j h;exact .inr (by omega))
 have hbx:=hbq.trans hb0
 clear hbq hR
 go_wp2
 refine mixQ_mk (over_of HXZ.out) (mix_late ?_)
 clear hE hb0 hb3 k2 k3 hp1 hbn1 hs1 hn1 hCT c0 c1 c2 c3 c4 c5 lt d2 d3 d4 d5 e2 e3 hO hD hN hF hrb
 obtain ⟨y0,y1,y2,a2,fn2,rfl,HFN,HX⟩:=tlS hp hX hbx hbn hsub hnF (by omega)
 obtain ⟨c0,c1,c2,c3,c4,c5,c6,c7,c8,cz,ll⟩:=nin_of hbx
 clear hX hbx hp hbn hsub hnF
 rcases HFN.out with rfl | ⟨g',caps',rfl⟩
 all_goals
  go_wp2
  refine lateQ_mk (fun _ => True) trivial (mix_end ?_)
  clear c0 c1 c2 c3 c4 c5 c6 c7 c8 cz ll
  obtain ⟨hX,hB,hP⟩:=HX.out
  clear HX
  generalize (World.setCell _ (⟨w.heap.size,8,none⟩ : Addr) _) = Z at hX hB hP ⊢
  obtain ⟨c0,c1,c2,c3,c4,c5,c6,c7,c8,cz,ll⟩:=nin_of hB
  go_wp2
  exact bodyPost_ret (by simp only [results,Tryz.results153,go_sem];simp [go_sem,c0,c1,c2,c3,c4,c5,c6,c7,c8]) rfl ⟨_,F',rfl,hX,hP⟩
theorem bec1_CT (p:Pl) (n:Int) (f:St → St) (F:Nat → Prop) (g:FuncId) (caps:Array Value) (B1 B2 B3:Nat) (w:World) (hA:FS f F (.func (.func g) #[] caps) w) (k1:w.heap[B1]? = some (.cells #[.func (.func g) #[] caps] 149 (0,0))) (k2:PBox B2 p w) (k3:w.heap[B3]? = some (.cells #[.int .i64 n] 3 (0,0))) (hF:Bnd F w) :
  CT kU kS (fun x => bec1T p n f x) (fun j => F j ∨ j = B1 ∨ j = B2 ∨ j = B3) (.func (.func 153) #[] #[.pointer (some ⟨B1,0,none⟩),.pointer (some ⟨B2,0,none⟩),.pointer (some ⟨B3,0,none⟩)]) w:=by
 refine ⟨_,_,rfl,enters_of Tryz.func153 (by kernel_rfl) rfl,fun x w' ha => ?_⟩
 have hFw:Agr F w w':=ha.sub fun j h => .inl h
 exact (bec1_PT p n f x F g caps B1 B2 B3 w' (hA.agr hFw) ((ha B1 (.inr (.inl rfl))).trans k1) ((ha B2 (.inr (.inr (.inl rfl)))).trans k2) ((ha B3 (.inr (.inr (.inr rfl)))).trans k3) (hF.agr hFw)).mono fun _ _ h => h.mono fun j h => h.elim
theorem bec_PT (p:Pl) (n:Int) (f:St → St) (F:Nat → Prop) (g:FuncId) (caps:Array Value) (w:World) (hA:FS f F (.func (.func g) #[] caps) w)  (hF:Bnd F w) :
  Calls Tryz.prog 72 #[plV p,.int .i64 n,.func (.func g) #[] caps] w (RetP (PT kS (becT p n f)) F w):=by
 replace hA:=Lib.hid hA
 go_enter Tryz.func72,Tryz.ntmps72
 go_wp2_with (go_at_call 21;refine Hid.out ?_)
 refine Lib.hid ?_
 have ⟨hE,hb0,hb1,hb2,hb3,hW⟩:=al4 w (.cells #[.int .i64 p.n,.int .i64 p.t,.int .i64 p.r,.int .i64 p.d,.int .i64 p.b,.int .i64 p.g] 23) (.cells #[.int .i64 n] 3) (.cells #[.func (.func g) #[] caps] 149) (.cells #[.int .i64 0,.int .i64 0,.int .i64 0,.int .i64 0,.int .i64 0,.int .u64 0,.int .u64 0,.nilFunc,.pointer none] 153)
 generalize ((((w.alloc (.cells #[.int .i64 p.n,.int .i64 p.t,.int .i64 p.r,.int .i64 p.d,.int .i64 p.b,.int .i64 p.g] 23)).alloc (.cells #[.int .i64 n] 3)).alloc (.cells #[.func (.func g) #[] caps] 149)).alloc (.cells #[.int .i64 0,.int .i64 0,.int .i64 0,.int .i64 0,.int .i64 0,.int .u64 0,.int .u64 0,.nilFunc,.pointer none] 153)) = W at hE hb0 hb1 hb2 hb3 hW ⊢
 clear hW
 refine (state_any p n W).mono ?_
 rintro e w1 ⟨rfl,hx⟩
 replace hE:=ext_trans hE hx
 replace hb0:=(hx.block _ (heap_lt hb0)).trans hb0
 replace hb1:=(hx.block _ (heap_lt hb1)).trans hb1
 replace hb2:=(hx.block _ (heap_lt hb2)).trans hb2
 replace hb3:=(hx.block _ (heap_lt hb3)).trans hb3
 clear hx
 replace hE:=Lib.hid hE
 replace hb0:=Lib.hid hb0
 replace hb1:=Lib.hid hb1
 replace hb2:=Lib.hid hb2
 replace hb3:=Lib.hid hb3
 go_wp2_with (go_at_call 117;refine Hid.out ?_)
 refine Lib.hid ?_
 replace hE:=hE.out
 replace hb0:=hb0.out
 replace hb1:=hb1.out
 replace hb2:=hb2.out
 replace hb3:=hb3.out
 refine (get_PT (p.stF n) w1).mono ?_
 rintro e w2 ⟨v1,F1,rfl,hx,hp1,hbn1,hsub⟩
 have hn1:¬ F1 (w.heap.size+1+1+1):=fun h => (hsub _ h).elim (fun h => h) fun h => by have:=heap_lt hb3;omega
 have hs1:∀ j,F1 j → noF j ∨ w.heap.size ≤ j:=fun j hj => (hsub j hj).imp_right fun h => Nat.le_trans hE.size h
 replace hE:=ext_trans hE hx
 replace hb0:=(hx.block _ (heap_lt hb0)).trans hb0
 replace hb1:=(hx.block _ (heap_lt hb1)).trans hb1
 replace hb2:=(hx.block _ (heap_lt hb2)).trans hb2
 replace hb3:=(hx.block _ (heap_lt hb3)).trans hb3
 clear hx hsub
 replace hE:=Lib.hid hE
 replace hb0:=Lib.hid hb0
 replace hb1:=Lib.hid hb1
 replace hb2:=Lib.hid hb2
 replace hb3:=Lib.hid hb3
 replace hp1:=Lib.hid hp1
 replace hbn1:=Lib.hid hbn1
 replace hs1:=Lib.hid hs1
 replace hn1:=Lib.hid hn1
 go_wp2_with (go_at_call 152;refine Hid.out ?_)
 refine Lib.hid ?_
 replace hE:=hE.out
 replace hb0:=hb0.out
 replace hb1:=hb1.out
 replace hb2:=hb2.out
 replace hb3:=hb3.out
 replace hp1:=hp1.out
 replace hbn1:=hbn1.out
 replace hs1:=hs1.out
 replace hn1:=hn1.out
 have hCT:=bec1_CT p n f F g caps (w.heap.size+1+1) w.heap.size (w.heap.size+1) w2 (hA.out.agr (Agr.of_ext hE hF)) hb2 hb0 hb1 (hF.ext hE.size)
 refine (then_US _ _ F1 _ v1 _ w2 hp1 hCT hbn1 (fun j h => by rcases h with h | rfl | rfl | rfl;exact Nat.lt_of_lt_of_le (hF j h) hE.size;exact heap_lt hb2;exact heap_lt hb0;exact heap_lt hb1)).mono ?_
 rintro e w' hR
 obtain ⟨v',F',rfl,hX,hp,hbn,hsub,hnF,hbq⟩:=hR.tail (G:=F) (w.heap.size+1+1+1) hE (heap_lt hb3) (fun h => by rcases h with h | h | h | h | h;exact hn1 h;(have:=hF _ h;omega);omega;omega;omega) (fun j h => by rcases h with h | h | h | h | h;exact (hs1 j h).imp_left False.elim;exact .inl (h);exact .inr (by omega);exact .inr (by omega);exact .inr (by omega))
 have hbx:=hbq.trans hb3
 clear hbq hR
 clear hE hb0 hb1 hb2 hb3 hp1 hbn1 hs1 hn1 hA hCT
 obtain ⟨y0,y1,y2,a2,fn2,rfl,HFN,HX⟩:=tlS hp hX hbx hbn hsub hnF (by omega)
 obtain ⟨c0,c1,c2,c3,c4,c5,c6,c7,c8,cz,ll⟩:=nin_of hbx
 clear hX hbx hp hbn hsub hnF
 rcases HFN.out with rfl | ⟨g',caps',rfl⟩
 all_goals
  go_wp2
  clear c0 c1 c2 c3 c4 c5 c6 c7 c8 cz ll
  obtain ⟨hX,hB,hP⟩:=HX.out
  clear HX
  generalize (World.setCell _ (⟨w.heap.size+1+1+1,8,none⟩ : Addr) _) = Z at hX hB hP ⊢
  obtain ⟨c0,c1,c2,c3,c4,c5,c6,c7,c8,cz,ll⟩:=nin_of hB
  exact bodyPost_ret (by simp only [results,Tryz.results72,go_sem];simp [go_sem,c0,c1,c2,c3,c4,c5,c6,c7,c8]) rfl ⟨_,F',rfl,hX,hP⟩
end Go.Proofs.YthjklbonebnekaaGreat

