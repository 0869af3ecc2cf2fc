/-
  What the calls of Then come to (NN). Conditions: those of each theorem.
-/
import Derived.Test.YthjklbonebnekaaGreatGaa
import Derived.Test.YthjklbonebnekaaGreatGab
import Derived.Test.YthjklbonebnekaaGreatGad
import Derived.Test.YthjklbonebnekaaGreatGaf
import Derived.Deep.Slices
import Derived.Deep.Cut
set_option maxRecDepth 8000
set_option maxHeartbeats 4000000
namespace Go.Proofs.YthjklbonebnekaaGreat
open Go Go.RowKit
theorem thenDNN (r:Unit) (a:Acc) (f:Unit → Tr (Unit)) (F:Nat → Prop) (fn:Value) (w:World) (hC:CT kN kN f F fn w) (hF:Bnd F w) :
  Calls Tryz.prog 211 #[.agg #[.int .i64 a.op,.int .i64 a.at_,.int .u64 (U a.a),.int .u64 (U a.b),.nilFunc,.pointer none],fn] w (RetP (PT kN (f r)) F w):=by
 obtain ⟨g,caps,rfl,hg,hc⟩:=hC
 have HN:=Lib.hid hc
 unfold Enters at hg
 clear hc
 go_enter Tryz.func211,Tryz.ntmps211
 go_wp2_with (go_at_call 135;refine (overYN a.op a.at_ (U a.a) (U a.b) _).mono ?_;rintro e w1 ⟨rfl,hx⟩;refine Hid.out ?_)
 refine Lib.hid ?_
 have hb2:=(hx.block (w.heap.size+1) (by simp)).trans ((Below.heap_alloc _ _ _ (by simp)).trans (heap_at (w.alloc (.cells #[.int .i64 a.op,.int .i64 a.at_,.int .u64 (U a.a),.int .u64 (U a.b),.nilFunc,.pointer none] 137)) _ _ (by simp)))
 have hb3:=(hx.block (w.heap.size+1+1) (by simp)).trans (heap_at ((w.alloc (.cells #[.int .i64 a.op,.int .i64 a.at_,.int .u64 (U a.a),.int .u64 (U a.b),.nilFunc,.pointer none] 137)).alloc (.cells #[.func (.func g) #[] caps] 264)) _ _ (by simp))
 have hE:Ext w w1:=ext_trans (ext_alloc _ (ext_alloc _ (ext_alloc _ (ext_refl w)))) hx
 have hs1:w.heap.size+1+1 < w1.heap.size:=heap_lt hb3
 have k0:=cell_at (o:=0) hb2 rfl
 have l0:=heap_lt hb2
 have HE:=Lib.hid (ext_alloc (.cells #[] 132) hE)
 have HB3:=Lib.hid ((Below.heap_alloc _ (.cells #[] 132) _ hs1).trans hb3)
 have hsa:(w1.alloc (.cells #[] 132)).heap.size = w1.heap.size+1:=by simp
 have HCX:=Lib.hid (HN.out r (w1.alloc (.cells #[] 132)) (Agr.of_ext HE.out hF))
 simp only [kN] at HCX
 clear hx hb2 hb3 hE HN
 go_wp2_with (refine HCX.out.mono ?_;rintro e2 w2 ⟨v',F',rfl,hx,hp,hbn,hsub⟩;refine Hid.out ?_)
 refine Lib.hid ?_
 have hbx:=(hx.block _ (heap_lt HB3.out)).trans HB3.out
 have hnF:¬ F' (w.heap.size+1+1):=fun h => by
  rcases hsub _ h with h | h
  ·have:=hF _ h;omega
  ·omega
 obtain ⟨a2,fn2,rfl,HFN,HX⟩:=tlN hp (ext_trans HE.out hx) hbx hbn (fun j hj => (hsub j hj).imp_right fun h => (by omega:w.heap.size ≤ j)) hnF (by omega)
 obtain ⟨c0,c1,c2,c3,c4,c5,cz,ll⟩:=six_of hbx
 clear hx hbx hp hbn hsub hnF HCX HE HB3
 rcases HFN.out with rfl | ⟨g',caps',rfl⟩
 all_goals
  go_wp2
  clear c0 c1 c2 c3 c4 c5 cz ll
  obtain ⟨hX,hB,hP⟩:=HX.out
  clear HX
  generalize (World.setCell _ (⟨w.heap.size+1+1,5,none⟩ : Addr) _) = Z at hX hB hP ⊢
  obtain ⟨c0,c1,c2,c3,c4,c5,cz,ll⟩:=six_of hB
  exact bodyPost_ret (by simp only [results,Tryz.results211,go_sem];simp [go_sem,c0,c1,c2,c3,c4,c5]) rfl ⟨_,F',rfl,hX,hP⟩
theorem thenANN (a:Acc) (g0:FuncId) (caps0:Array Value) (g:FuncId) (caps:Array Value) (w:World) :
  Calls Tryz.prog 211 #[.agg #[.int .i64 a.op,.int .i64 a.at_,.int .u64 (U a.a),.int .u64 (U a.b),.func (.func g0) #[] caps0,.pointer none],.func (.func g) #[] caps] w fun e w' => e = .returned (.agg #[.int .i64 a.op,.int .i64 a.at_,.int .u64 (U a.a),.int .u64 (U a.b),.func (.func 245) #[] #[.pointer (some ⟨w.heap.size,0,none⟩),.pointer (some ⟨w.heap.size+1,0,none⟩)],.pointer none]) ∧ Ext w w' ∧ w'.heap[w.heap.size]? = some (.cells #[.int .i64 a.op,.int .i64 a.at_,.int .u64 (U a.a),.int .u64 (U a.b),.func (.func g0) #[] caps0,.pointer none] 137 (0,0)) ∧ w'.heap[w.heap.size+1]? = some (.cells #[.func (.func g) #[] caps] 264 (0,0)):=by
 go_enter Tryz.func211,Tryz.ntmps211
 go_wp2_with (go_at_call 135;refine (ovnN a _ _ _ _).mono ?_;rintro e w1 ⟨rfl,hx⟩;refine Hid.out ?_)
 refine Lib.hid ?_
 have hb1:=(hx.block w.heap.size (by simp;omega)).trans ((Below.heap_alloc _ _ _ (by simp;omega)).trans ((Below.heap_alloc _ _ _ (by simp)).trans (heap_at w (.cells #[.int .i64 a.op,.int .i64 a.at_,.int .u64 (U a.a),.int .u64 (U a.b),.func (.func g0) #[] caps0,.pointer none] 137) _ rfl)))
 have hb2:=(hx.block (w.heap.size+1) (by simp)).trans ((Below.heap_alloc _ _ _ (by simp)).trans (heap_at (w.alloc (.cells #[.int .i64 a.op,.int .i64 a.at_,.int .u64 (U a.a),.int .u64 (U a.b),.func (.func g0) #[] caps0,.pointer none] 137)) _ _ (by simp)))
 have hb3:=(hx.block (w.heap.size+1+1) (by simp)).trans (heap_at ((w.alloc (.cells #[.int .i64 a.op,.int .i64 a.at_,.int .u64 (U a.a),.int .u64 (U a.b),.func (.func g0) #[] caps0,.pointer none] 137)).alloc (.cells #[.func (.func g) #[] caps] 264)) _ _ (by simp))
 have hE:Ext w w1:=ext_trans (ext_alloc _ (ext_alloc _ (ext_alloc _ (ext_refl w)))) hx
 obtain ⟨d0,d1,d2,d3,d4,d5,dz,dl⟩:=six_of hb1
 have hX:=put6_ext (b:=w.heap.size+1+1) (.int .i64 a.op) (.int .i64 a.at_) (.int .u64 (U a.a)) (.int .u64 (U a.b)) (.func (.func 245) #[] #[.pointer (some ⟨w.heap.size,0,none⟩),.pointer (some ⟨w.heap.size+1,0,none⟩)]) (.pointer none) hE (by omega)
 have hB:=put6_block (.int .i64 a.op) (.int .i64 a.at_) (.int .u64 (U a.a)) (.int .u64 (U a.b)) (.func (.func 245) #[] #[.pointer (some ⟨w.heap.size,0,none⟩),.pointer (some ⟨w.heap.size+1,0,none⟩)]) (.pointer none) hb3
 have hA1:=(put6_other (w:=w1) (b:=w.heap.size+1+1) (k:=w.heap.size) (.int .i64 a.op) (.int .i64 a.at_) (.int .u64 (U a.a)) (.int .u64 (U a.b)) (.func (.func 245) #[] #[.pointer (some ⟨w.heap.size,0,none⟩),.pointer (some ⟨w.heap.size+1,0,none⟩)]) (.pointer none) (by omega)).trans hb1
 have hA2:=(put6_other (w:=w1) (b:=w.heap.size+1+1) (k:=w.heap.size+1) (.int .i64 a.op) (.int .i64 a.at_) (.int .u64 (U a.a)) (.int .u64 (U a.b)) (.func (.func 245) #[] #[.pointer (some ⟨w.heap.size,0,none⟩),.pointer (some ⟨w.heap.size+1,0,none⟩)]) (.pointer none) (by omega)).trans hb2
 obtain ⟨c0,c1,c2,c3,c4,c5,cz,ll⟩:=six_of hb3
 rw [put6] at hX hB hA1 hA2
 have HX:=Lib.hid (And.intro hX (And.intro hB (And.intro hA1 hA2)))
 clear hX hB hA1 hA2 hb1 hb2 hb3 hE hx
 go_wp2
 clear c0 c1 c2 c3 c4 c5 cz ll
 obtain ⟨hX,hB,hA1,hA2⟩:=HX.out
 clear HX
 generalize (World.setCell _ (⟨w.heap.size+1+1,5,none⟩ : Addr) _) = Z at hX hB hA1 hA2 ⊢
 replace hX:=ext_alloc (.cells #[] 132) hX
 replace hB:=(Below.heap_alloc Z (.cells #[] 132) _ (heap_lt hB)).trans hB
 replace hA1:=(Below.heap_alloc Z (.cells #[] 132) _ (heap_lt hA1)).trans hA1
 replace hA2:=(Below.heap_alloc Z (.cells #[] 132) _ (heap_lt hA2)).trans hA2
 generalize Z.alloc (.cells #[] 132) = Y at hX hB hA1 hA2 ⊢
 obtain ⟨c0,c1,c2,c3,c4,c5,cz,ll⟩:=six_of hB
 exact bodyPost_ret (by simp only [results,Tryz.results211,go_sem];simp [go_sem,c0,c1,c2,c3,c4,c5]) rfl ⟨rfl,hX,hA1,hA2⟩
theorem then1NN {t:Tr (Unit)} {t2:Tr (Unit)} (a:Acc) (g0:FuncId) (caps0:Array Value) (g:FuncId) (caps:Array Value) (F G:Nat → Prop) (x:BitVec 64) (B1 B2:Nat) (w:World) (he:Enters g0) (hF:Bnd F w) (hG:Bnd G w)
  (k1:w.heap[B1]? = some (.cells #[.int .i64 a.op,.int .i64 a.at_,.int .u64 (U a.a),.int .u64 (U a.b),.func (.func g0) #[] caps0,.pointer none] 137 (0,0))) (k2:w.heap[B2]? = some (.cells #[.func (.func g) #[] caps] 264 (0,0)))
  (hN:∀ W,Ext w W → Calls Tryz.prog g0 (#[.int .u64 (U x)] ++ caps0) W (RetP (PT kN t) F W))
  (hT:∀ v F1 W,Ext w W → PT kN t F1 v W → Bnd F1 W → Calls Tryz.prog 211 #[v,.func (.func g) #[] caps] W (RetP (PT kN t2) (fun j => F1 j ∨ G j) W)) :
  Calls Tryz.prog 245 #[.int .u64 (U x),.pointer (some ⟨B1,0,none⟩),.pointer (some ⟨B2,0,none⟩)] w (RetP (PT kN t2) (fun j => F j ∨ G j) w):=by
 have HN:=Lib.hid hN
 have HT:=Lib.hid hT
 unfold Enters at he
 have q1:=cell_at (o:=4) k1 rfl
 have q2:=cell_at (o:=0) k2 rfl
 have l1:=cell_lt q1
 have l2:=cell_lt q2
 clear hN hT k1 k2
 go_enter Tryz.func245,Tryz.ntmps245
 go_wp2
 have m1:=ext_cell (ext_alloc (.cells #[.int .i64 0,.int .i64 0,.int .u64 0,.int .u64 0,.nilFunc,.pointer none] 137) (ext_refl w)) q1
 have m2:=ext_cell (ext_alloc (.cells #[.int .i64 0,.int .i64 0,.int .u64 0,.int .u64 0,.nilFunc,.pointer none] 137) (ext_refl w)) q2
 have hE:Ext w (w.alloc (.cells #[.int .i64 0,.int .i64 0,.int .u64 0,.int .u64 0,.nilFunc,.pointer none] 137)):=ext_alloc _ (ext_refl w)
 have hb:=heap_at w (.cells #[.int .i64 0,.int .i64 0,.int .u64 0,.int .u64 0,.nilFunc,.pointer none] 137) w.heap.size rfl
 have hW:(w.alloc (.cells #[.int .i64 0,.int .i64 0,.int .u64 0,.int .u64 0,.nilFunc,.pointer none] 137)).heap.size = w.heap.size+1:=by simp
 generalize w.alloc (.cells #[.int .i64 0,.int .i64 0,.int .u64 0,.int .u64 0,.nilFunc,.pointer none] 137) = W at m1 m2 hE hb hW ⊢
 have n1:=cell_lt m1
 have n2:=cell_lt m2
 have HE:=Lib.hid hE
 have HB:=Lib.hid hb
 have HW:=Lib.hid hW
 clear hE hb hW
 refine wp_region_mix (fun w' => ∃ s,w' = over W s) [(0,[0,1,2,4]),(1,[3]),(1,[5]),(2,[6])] (by kernel_rfl) (by kernel_rfl) (over_of (ext_drew (ext_refl W))) ?_
 simp only [pieces,pickL,List.map_cons,List.map_nil,List.getD_cons_zero,List.getD_cons_succ]
 refine mix_reads ?_
 repeat (go_big_quiet_step (fail))
 refine wpQuiet_nil (mix_acts ?_)
 have HCX:=Lib.hid (HN.out W.drew (ext_drew HE.out))
 go_wp2_with (refine HCX.out.mono ?_;rintro e w1 ⟨v1,F1,rfl,hx1,hp1,hbn1,hsub1⟩;refine Hid.out ?_)
 refine Lib.hid ?_
 have HX1:=Lib.hid (ext_trans (ext_drew (ext_refl W)) hx1)
 have HT1:=Lib.hid (HT.out v1 F1 w1 (ext_trans HE.out HX1.out) hp1 hbn1)
 have HS1:=Lib.hid hsub1
 clear hx1 hp1 hbn1 hsub1 HCX HN HT
 go_wp2
 refine mixQ_mk (over_of HX1.out) (mix_acts ?_)
 go_wp2_with (go_at_call 211;refine HT1.out.mono ?_;rintro e w2 ⟨v2,F2,rfl,hx2,hp2,hbn2,hsub2⟩;refine Hid.out ?_)
 refine Lib.hid ?_
 have HX2:=Lib.hid (ext_trans HX1.out hx2)
 have hsub:∀ j,F2 j → (F j ∨ G j) ∨ w.heap.size+1 ≤ j:=fun j hj => by
  have h1:=HX1.out.size
  have h2:=HW.out
  rcases hsub2 j hj with (h | h) | h
  ·rcases HS1.out j h with h | h
   ·exact .inl (.inl h)
   ·have h3:W.drew.heap.size = W.heap.size:=rfl
    exact .inr (by omega)
  ·exact .inl (.inr h)
  ·exact .inr (by omega)
 have hnF:¬ F2 w.heap.size:=fun h => by
  rcases hsub _ h with (h | h) | h
  ·have:=hF _ h;omega
  ·have:=hG _ h;omega
  ·omega
 have hbx:=(HX2.out.block _ (heap_lt HB.out)).trans HB.out
 obtain ⟨a2,fn2,rfl,HFN,HX⟩:=tlN hp2 (ext_trans HE.out HX2.out) hbx hbn2 (fun j hj => (hsub j hj).imp_right fun h => (by omega:w.heap.size ≤ j)) hnF (Nat.le_refl _)
 have HBX:=Lib.hid hbx
 clear hx2 hp2 hbn2 hsub2 hsub hnF hbx HT1 HS1
 go_wp2
 refine mixQ_mk (over_of HX2.out) (mix_late ?_)
 obtain ⟨c0,c1,c2,c3,c4,c5,cz,ll⟩:=six_of HBX.out
 clear HBX
 rcases HFN.out with rfl | ⟨g',caps',rfl⟩
 all_goals
  go_wp2
  refine lateQ_mk (fun _ => True) trivial (mix_end ?_)
  clear c0 c1 c2 c3 c4 c5 cz ll
  obtain ⟨hX,hB,hP⟩:=HX.out
  clear HX
  generalize (World.setCell _ (⟨w.heap.size,5,none⟩ : Addr) _) = Z at hX hB hP ⊢
  obtain ⟨c0,c1,c2,c3,c4,c5,cz,ll⟩:=six_of hB
  go_wp2
  exact bodyPost_ret (by simp only [results,Tryz.results245,go_sem];simp [go_sem,c0,c1,c2,c3,c4,c5]) rfl ⟨_,F2,rfl,hX,hP⟩
theorem thenM_NN (F:Nat → Prop) (v:Value) (g:FuncId) (caps:Array Value) (w:World) (hP:PT kN .more F v w):Calls Tryz.prog 211 #[v,.func (.func g) #[] caps] w (RetP (PT kN .more) noF w):=by
 obtain ⟨a,g0,caps0,rfl,he⟩:=hP
 refine (thenANN a g0 caps0 g caps w).mono ?_
 rintro e w' ⟨rfl,hx,h1,h2⟩
 exact ⟨_,noF,rfl,hx,⟨a,_,_,rfl,enters_of Tryz.func245 (by kernel_rfl) rfl⟩,fun _ h => h.elim,fun _ h => h.elim⟩
theorem then_NN:∀ (t:Tr (Unit)) (f:Unit → Tr (Unit)) (F G:Nat → Prop) (v fn:Value) (w:World),PT kN t F v w → CT kN kN f G fn w → Bnd F w → Bnd G w →
  Calls Tryz.prog 211 #[v,fn] w (RetP (PT kN (t.bind f)) (fun j => F j ∨ G j) w)
 | .done r,f,F,G,v,fn,w,hP,hC,hF,hG => by
  cases hP
  exact (thenDNN r accZ f G fn w hC hG).mono fun e w' h => h.mono fun j hj => .inr hj
 | .more,f,F,G,v,fn,w,hP,hC,hF,hG => by
  obtain ⟨g,caps,rfl,hg,hc⟩:=hC
  exact (thenM_NN F v g caps w hP).mono fun e w' h => h.mono fun j hj => hj.elim
 | .ask a k,f,F,G,v,fn,w,hP,hC,hF,hG => by
  obtain ⟨g0,caps0,rfl,he,hk⟩:=hP
  obtain ⟨g,caps,rfl,hg,hc⟩:=id hC
  refine (thenANN a g0 caps0 g caps w).mono ?_
  rintro e w' ⟨rfl,hx,h1,h2⟩
  have hs1:=heap_lt h1
  have hs2:=heap_lt h2
  refine ⟨_,fun j => (F j ∨ G j) ∨ j = w.heap.size ∨ j = w.heap.size+1,rfl,hx,⟨_,_,rfl,enters_of Tryz.func245 (by kernel_rfl) rfl,fun x u hu => ?_⟩,?_,?_⟩
  ·have hFu:Agr F w u:=(Agr.of_ext hx hF).trans (hu.sub fun j hj => .inl (.inl hj))
   have hGu:Agr G w u:=(Agr.of_ext hx hG).trans (hu.sub fun j hj => .inl (.inr hj))
   have hu1:=(hu w.heap.size (.inr (.inl rfl))).trans h1
   have hu2:=(hu (w.heap.size+1) (.inr (.inr rfl))).trans h2
   have lt_of:∀ j,j < w.heap.size → u.heap[j]? = w.heap[j]? → j < u.heap.size:=fun j hj e => by
    have h0:w.heap[j]? = some w.heap[j]:=Array.getElem?_eq_getElem hj
    exact heap_lt (e.trans h0)
   have bF:Bnd F u:=fun j hj => lt_of j (hF j hj) (hFu j hj)
   have bG:Bnd G u:=fun j hj => lt_of j (hG j hj) (hGu j hj)
   refine (then1NN a g0 caps0 g caps F G x w.heap.size (w.heap.size+1) u he bF bG hu1 hu2 (fun W hW => hk x W (hFu.trans (Agr.of_ext hW bF))) (fun v' F1 W hW hp hb => then_NN (k x) f F1 G v' _ W hp (hC.agr (hGu.trans (Agr.of_ext hW bG))) hb (bG.ext hW.size))).mono ?_
   exact fun e w'' h => h.mono fun j hj => .inl hj
  ·intro j hj
   rcases hj with (hj | hj) | rfl | rfl
   ·exact Nat.lt_of_lt_of_le (hF j hj) hx.size
   ·exact Nat.lt_of_lt_of_le (hG j hj) hx.size
   ·exact hs1
   ·exact hs2
  ·intro j hj
   rcases hj with hj | rfl | rfl
   ·exact .inl hj
   ·exact .inr (Nat.le_refl _)
   ·exact .inr (Nat.le_succ _)
structure T3 where
 a:Int
 b:Int
 c:Int
deriving DecidableEq
def T3.vs (x:T3):List Value:=[.int .i64 x.a,.int .i64 x.b,.int .i64 x.c]
def tN (l:List T3) (i:Nat):T3:=l.getD i ⟨0,0,0⟩
def cs3 (l:List T3):List Value:=l.flatMap T3.vs
theorem cs3_get (l:List T3):∀ i,i < l.length → ∀ j,j < 3 → (cs3 l)[i * 3+j]? = (tN l i).vs[j]?:=by
 induction l with
 | nil => intro i hi;exact absurd hi (Nat.not_lt_zero _)
 | cons p l ih =>
  intro i hi j hj
  show (List.flatMap T3.vs (p :: l))[i * 3+j]? = _
  rw [List.flatMap_cons]
  cases i with
  | zero =>
   rw [List.getElem?_append_left (by simp [T3.vs];omega),Nat.zero_mul,Nat.zero_add]
   rfl
  | succ k =>
   have h:=ih k (by simpa using hi) j hj
   rw [show (k+1) * 3+j = 3+(k * 3+j) by omega,List.getElem?_append_right (by simp [T3.vs])]
   simp only [T3.vs,List.length_cons,List.length_nil,Nat.zero_add,Nat.reduceAdd,Nat.add_sub_cancel_left]
   exact h
def Ts (w:World) (v:Value) (l:List T3):Prop:=
 ∃ a0 cap,v = .slice a0 l.length cap ∧ l.length ≤ cap ∧ (0 < l.length → ∃ b off,a0 = some ⟨b,off,none⟩ ∧ b < w.heap.size ∧
  ∀ i,i < l.length → w.cell? ⟨b,off+i * 3,none⟩ = some (.int .i64 (tN l i).a) ∧ w.cell? ⟨b,off+i * 3+1,none⟩ = some (.int .i64 (tN l i).b) ∧ w.cell? ⟨b,off+i * 3+2,none⟩ = some (.int .i64 (tN l i).c))
theorem Ts.ext {w w':World} {v:Value} {l:List T3} (h:Ts w v l) (hb:Ext w w'):Ts w' v l:=by
 obtain ⟨a0,cap,e,hc,hr⟩:=h
 refine ⟨a0,cap,e,hc,fun hl => ?_⟩
 obtain ⟨b,off,ea,hlt,hcell⟩:=hr hl
 refine ⟨b,off,ea,Nat.lt_of_lt_of_le hlt hb.size,fun i hi => ?_⟩
 obtain ⟨h1,h2,h3⟩:=hcell i hi
 exact ⟨ext_cell hb h1,ext_cell hb h2,ext_cell hb h3⟩
theorem Ts.at {w:World} {a0:Option Addr} {n cap:Nat} {l:List T3} (h:Ts w (.slice a0 n cap) l) (hl:0 < l.length):∃ b off,a0 = some ⟨b,off,none⟩ ∧ b < w.heap.size ∧
  ∀ i,i < l.length → w.cell? ⟨b,off+i * 3,none⟩ = some (.int .i64 (tN l i).a) ∧ w.cell? ⟨b,off+i * 3+1,none⟩ = some (.int .i64 (tN l i).b) ∧ w.cell? ⟨b,off+i * 3+2,none⟩ = some (.int .i64 (tN l i).c):=by
 obtain ⟨a,c,e,_,hr⟩:=h
 simp at e
 obtain ⟨rfl,rfl,rfl⟩:=e
 exact hr hl
theorem ts_nil (w:World):Ts w (.slice none 0 0) []:=⟨none,0,rfl,Nat.le_refl _,fun h => absurd h (Nat.not_lt_zero _)⟩
theorem ts_at {w:World} {g cap:Nat} {c:Array Value} {t:TypeId} {f:Nat × Nat} {l:List T3} (hh:w.heap[g]? = some (.cells c t f)) (hc:∀ j,j < l.length * 3 → c[j]? = (cs3 l)[j]?) (hl:l.length ≤ cap):Ts w (.slice (some ⟨g,0,none⟩) l.length cap) l:=by
 refine ⟨_,_,rfl,hl,fun _ => ⟨g,0,rfl,(Array.getElem?_eq_some_iff.1 hh).1,fun i hi => ?_⟩⟩
 have key:∀ j,j < 3 → w.cell? ⟨g,0+i * 3+j,none⟩ = (tN l i).vs[j]?:=fun j hj => by
  rw [← cs3_get l i hi j hj,← hc (i * 3+j) (by omega),Nat.zero_add]
  have hlt:i * 3+j < c.size:=by
   have h3:=hc (i * 3+j) (by omega)
   rw [cs3_get l i hi j hj] at h3
   refine Nat.lt_of_not_le fun hle => ?_
   rw [Array.getElem?_eq_none hle] at h3
   rcases (show j = 0 ∨ j = 1 ∨ j = 2 by omega) with rfl | rfl | rfl <;> simp [T3.vs] at h3
  have he:=Array.getElem?_eq_getElem hlt
  rw [he]
  exact cell_at hh he
 exact ⟨by simpa [T3.vs] using key 0 (by omega),by simpa [T3.vs] using key 1 (by omega),by simpa [T3.vs] using key 2 (by omega)⟩
theorem ts_new (w:World) (l:List T3) (t:TypeId) (n:Nat) (c:Array Value) (g:Nat) (hg:g = w.heap.size) (hn:n = l.length) (hc:c = (cs3 l).toArray):Ts (w.alloc (.cells c t)) (.slice (some ⟨g,0,none⟩) n n) l:=by
 subst hg hn hc
 have hb:(w.alloc (.cells (cs3 l).toArray t)).heap[w.heap.size]? = some (.cells (cs3 l).toArray t (0,0)):=by
  show (w.heap.push _)[w.heap.size]? = _
  simp
 exact ts_at hb (fun j _ => by simp) (Nat.le_refl _)
structure Pl where
 n:Int
 t:Int
 r:Int
 d:Int
 b:Int
 g:Int
def Pl.ok (p:Pl):Prop:=(1 ≤ p.n ∧ p.n ≤ 1048576) ∧ (1 ≤ p.t ∧ p.t ≤ 16) ∧ (3 * p.t+1 ≤ p.r ∧ p.r ≤ 1024) ∧ (0 ≤ p.d ∧ p.d ≤ 64) ∧ (1 ≤ p.b ∧ p.b ≤ 256) ∧ (1 ≤ p.g ∧ p.g ≤ 1073741823)
instance plOkDec (p:Pl):Decidable p.ok:=by unfold Pl.ok;infer_instance
def Pl.c (p:Pl):Int:=if 2 < p.b then p.b else 2
theorem Pl.c_le (p:Pl):2 ≤ p.c:=by unfold Pl.c;split <;> omega
theorem Pl.c_ge (p:Pl) (h:p.b ≤ 256):p.c ≤ 256:=by unfold Pl.c;split <;> omega
def Pl.dom (p:Pl) (x:Int):Int:=1+x * (1+p.c)
def Pl.haz (p:Pl) (x:Int):Int:=p.dom p.d+x * 3
def Pl.cnt (p:Pl) (x:Int):Int:=p.haz p.t+x * (1+p.r)
def Pl.nod (p:Pl) (x:Int):Int:=p.cnt p.t+x * 5
def Pl.domW (p:Pl) (x:Int):Int:=wrap64 (1+wrap64 (x * wrap64 (1+p.c)))
def Pl.hazW (p:Pl) (x:Int):Int:=wrap64 (p.domW p.d+wrap64 (x * 3))
def Pl.cntW (p:Pl) (x:Int):Int:=wrap64 (p.hazW p.t+wrap64 (x * wrap64 (1+p.r)))
def Pl.nodW (p:Pl) (x:Int):Int:=wrap64 (p.cntW p.t+wrap64 (x * 5))
theorem mul_in {x y a b:Int} (h0:0 ≤ x) (h1:x ≤ a) (h2:0 ≤ y) (h3:y ≤ b):0 ≤ x * y ∧ x * y ≤ a * b:=
 ⟨Int.mul_nonneg h0 h2,Int.mul_le_mul h1 h3 h2 (Int.le_trans h0 h1)⟩
theorem Pl.dom_b {p:Pl} (h:p.ok) {x:Int} (h0:0 ≤ x) (h1:x ≤ p.d):0 ≤ x * (1+p.c) ∧ x * (1+p.c) ≤ 16448:=by
 have hc:=p.c_le
 unfold Pl.ok at h
 have hc':=p.c_ge (by omega)
 have:=mul_in (x:=x) (y:=1+p.c) (a:=64) (b:=257) h0 (by omega) (by omega) (by omega)
 omega
theorem Pl.cnt_b {p:Pl} (h:p.ok) {x:Int} (h0:0 ≤ x) (h1:x ≤ p.t):0 ≤ x * (1+p.r) ∧ x * (1+p.r) ≤ 16400:=by
 unfold Pl.ok at h
 have:=mul_in (x:=x) (y:=1+p.r) (a:=16) (b:=1025) h0 (by omega) (by omega) (by omega)
 omega
theorem Pl.domW_eq {p:Pl} (h:p.ok) {x:Int} (h0:0 ≤ x) (h1:x ≤ p.d):p.domW x = p.dom x:=by
 have hb:=Pl.dom_b h h0 h1
 have hc:=p.c_le
 have hc':=p.c_ge (by unfold Pl.ok at h;omega)
 unfold Pl.domW Pl.dom
 rw [IntWalk.wrap64_in (1+p.c) (by omega),IntWalk.wrap64_in (x * (1+p.c)) (by omega),IntWalk.wrap64_in _ (by omega)]
theorem Pl.dom_in {p:Pl} (h:p.ok) {x:Int} (h0:0 ≤ x) (h1:x ≤ p.d):1 ≤ p.dom x ∧ p.dom x ≤ 16449:=by
 have hb:=Pl.dom_b h h0 h1
 unfold Pl.dom
 omega
theorem Pl.d_in {p:Pl} (h:p.ok):0 ≤ p.d ∧ p.d ≤ p.d:=by unfold Pl.ok at h;omega
theorem Pl.t_in {p:Pl} (h:p.ok):0 ≤ p.t ∧ p.t ≤ p.t:=by unfold Pl.ok at h;omega
theorem Pl.hazW_eq {p:Pl} (h:p.ok) {x:Int} (h0:0 ≤ x) (h1:x ≤ p.t):p.hazW x = p.haz x:=by
 have hd:=Pl.dom_in h (Pl.d_in h).1 (Pl.d_in h).2
 unfold Pl.hazW Pl.haz
 rw [Pl.domW_eq h (Pl.d_in h).1 (Pl.d_in h).2]
 unfold Pl.ok at h
 rw [IntWalk.wrap64_in (x * 3) (by omega),IntWalk.wrap64_in _ (by omega)]
theorem Pl.haz_in {p:Pl} (h:p.ok) {x:Int} (h0:0 ≤ x) (h1:x ≤ p.t):1 ≤ p.haz x ∧ p.haz x ≤ 16497:=by
 have hd:=Pl.dom_in h (Pl.d_in h).1 (Pl.d_in h).2
 unfold Pl.haz
 unfold Pl.ok at h
 omega
theorem Pl.cntW_eq {p:Pl} (h:p.ok) {x:Int} (h0:0 ≤ x) (h1:x ≤ p.t):p.cntW x = p.cnt x:=by
 have hd:=Pl.haz_in h (Pl.t_in h).1 (Pl.t_in h).2
 have hb:=Pl.cnt_b h h0 h1
 unfold Pl.cntW Pl.cnt
 rw [Pl.hazW_eq h (Pl.t_in h).1 (Pl.t_in h).2]
 unfold Pl.ok at h
 rw [IntWalk.wrap64_in (1+p.r) (by omega),IntWalk.wrap64_in (x * (1+p.r)) (by omega),IntWalk.wrap64_in _ (by omega)]
theorem Pl.cnt_in {p:Pl} (h:p.ok) {x:Int} (h0:0 ≤ x) (h1:x ≤ p.t):1 ≤ p.cnt x ∧ p.cnt x ≤ 32897:=by
 have hd:=Pl.haz_in h (Pl.t_in h).1 (Pl.t_in h).2
 have hb:=Pl.cnt_b h h0 h1
 unfold Pl.cnt
 omega
theorem Pl.nodW_eq {p:Pl} (h:p.ok) {x:Int} (h0:0 ≤ x) (h1:x ≤ p.n):p.nodW x = p.nod x:=by
 have hd:=Pl.cnt_in h (Pl.t_in h).1 (Pl.t_in h).2
 unfold Pl.nodW Pl.nod
 rw [Pl.cntW_eq h (Pl.t_in h).1 (Pl.t_in h).2]
 unfold Pl.ok at h
 rw [IntWalk.wrap64_in (x * 5) (by omega),IntWalk.wrap64_in _ (by omega)]
theorem Pl.nod_in {p:Pl} (h:p.ok) {x:Int} (h0:0 ≤ x) (h1:x ≤ p.n):1 ≤ p.nod x ∧ p.nod x ≤ 5275777:=by
 have hd:=Pl.cnt_in h (Pl.t_in h).1 (Pl.t_in h).2
 unfold Pl.nod
 unfold Pl.ok at h
 omega
def Pl.sizeF (p:Pl):Int:=if p.ok then p.nod p.n else 0
def Pl.headF (p:Pl):Int:=if p.ok then 0 else -1
def Pl.kindF (p:Pl) (x:Int):Int:=if p.ok ∧ 0 ≤ x ∧ x < p.d then p.dom x else -1
def Pl.hazF (p:Pl) (x i:Int):Int:=if p.ok ∧ (0 ≤ x ∧ x < p.t) ∧ 0 ≤ i ∧ i < 3 then p.haz x+i else -1
def Pl.cntF (p:Pl) (x:Int):Int:=if p.ok ∧ 0 ≤ x ∧ x < p.t then p.cnt x else -1
def Pl.retF (p:Pl) (x i:Int):Int:=if p.ok ∧ (0 ≤ x ∧ x < p.t) ∧ 0 ≤ i ∧ i < p.r then p.cnt x+1+i else -1
def Pl.stF (p:Pl) (x:Int):Int:=if p.ok ∧ 0 ≤ x ∧ x < p.n then p.nod x else -1
def Pl.nxF (p:Pl) (x:Int):Int:=if p.ok ∧ 0 ≤ x ∧ x < p.n then p.nod x+1 else -1
def Pl.fdF (p:Pl) (x i:Int):Int:=if p.ok ∧ (0 ≤ x ∧ x < p.n) ∧ 0 ≤ i ∧ i < 3 then p.nod x+2+i else -1
def Bd (l:List T3):Prop:=∀ i,i < l.length → (tN l i).b ≤ (tN l i).a ∧ (tN l i).a ≤ (tN l i).c
theorem bd_nil:Bd []:=fun _ h => absurd h (Nat.not_lt_zero _)
theorem bd_cons (x:T3) (l:List T3):Bd (x :: l) ↔ (x.b ≤ x.a ∧ x.a ≤ x.c) ∧ Bd l:=by
 constructor
 ·intro h
  exact ⟨h 0 (by simp),fun i hi => h (i+1) (by simpa using hi)⟩
 ·intro h i hi
  cases i with
  | zero => exact h.1
  | succ k => exact h.2 k (by simpa using hi)
def Pl.bds (p:Pl):List T3:=[⟨p.n,1,1048576⟩,⟨p.t,1,16⟩,⟨p.r,wrap64 (wrap64 (3 * p.t)+1),1024⟩,⟨p.d,0,64⟩,⟨p.b,1,256⟩,⟨p.g,1,1073741823⟩]
theorem Pl.bds_ok (p:Pl):Bd p.bds ↔ p.ok:=by
 unfold Pl.bds Pl.ok
 simp only [bd_cons,bd_nil,and_true]
 constructor
 ·rintro ⟨h1,h2,h3,h4,h5,h6⟩
  rw [IntWalk.wrap64_in (3 * p.t) (by omega),IntWalk.wrap64_in _ (by omega)] at h3
  exact ⟨h1,h2,h3,h4,h5,h6⟩
 ·rintro ⟨h1,h2,h3,h4,h5,h6⟩
  rw [IntWalk.wrap64_in (3 * p.t) (by omega),IntWalk.wrap64_in _ (by omega)]
  exact ⟨h1,h2,h3,h4,h5,h6⟩
def PlaceSpec (p:Pl) (at_:Int) (l:List T3) (r:Int):Prop:=(p.ok → Bd l → r = at_) ∧ (¬ (p.ok ∧ Bd l) → r = -1)
abbrev plV (p:Pl):Value:=.agg #[.int .i64 p.n,.int .i64 p.t,.int .i64 p.r,.int .i64 p.d,.int .i64 p.b,.int .i64 p.g]
theorem cells_any (p:Pl) (w:World):Calls Tryz.prog 244 #[plV p] w (Ret (.int .i64 p.c) w):=by
 by_cases h:2 < p.b
 ·have e:p.c = p.b:=by unfold Pl.c;rw [if_pos h]
  rw [e]
  clear e
  go_enter Tryz.func244,Tryz.ntmps244
  go_wp2
  go_ret
  exact Ret.mk (by repeat (first | exact ext_refl _ | apply ext_over | apply ext_alloc))
 ·have e:p.c = 2:=by unfold Pl.c;rw [if_neg h]
  rw [e]
  clear e
  go_enter Tryz.func244,Tryz.ntmps244
  go_wp2
  go_ret
  exact Ret.mk (by repeat (first | exact ext_refl _ | apply ext_over | apply ext_alloc))
theorem domain_any (p:Pl) (x:Int) (w:World):Calls Tryz.prog 208 #[plV p,.int .i64 x] w (Ret (.int .i64 (p.domW x)) w):=by
 go_enter Tryz.func208,Tryz.ntmps208
 go_wp2_with (go_at_call 244;refine (cells_any p _).mono ?_;rintro e w' hr;obtain ⟨rfl,s,rfl⟩:=hr.over;clear hr)
 go_ret
 exact Ret.int rfl (by repeat (first | exact ext_refl _ | apply ext_over | apply ext_alloc))
theorem hazards_any (p:Pl) (x:Int) (w:World):Calls Tryz.prog 132 #[plV p,.int .i64 x] w (Ret (.int .i64 (p.hazW x)) w):=by
 go_enter Tryz.func132,Tryz.ntmps132
 go_wp2_with (go_at_call 208;refine (domain_any p _ _).mono ?_;rintro e w' hr;obtain ⟨rfl,s,rfl⟩:=hr.over;clear hr)
 go_ret
 exact Ret.int rfl (by repeat (first | exact ext_refl _ | apply ext_over | apply ext_alloc))
theorem pcount_any (p:Pl) (x:Int) (w:World):Calls Tryz.prog 160 #[plV p,.int .i64 x] w (Ret (.int .i64 (p.cntW x)) w):=by
 go_enter Tryz.func160,Tryz.ntmps160
 go_wp2
 first | refine wp_region_over2 (by kernel_rfl) (by kernel_rfl) ?_ | refine wp_region_over (by kernel_rfl) (by kernel_rfl) ?_
 repeat (go_big_quiet_step ((go_at_call 132;exact over_call (hazards_any p _ _))))
 refine wpQuiet_nil ?_
 intro _ hw'
 obtain ⟨s,hw''⟩:=hw'
 subst hw''
 go_wp2
 go_ret
 exact Ret.int rfl (by repeat (first | exact ext_refl _ | apply ext_over | apply ext_alloc))
theorem node_any (p:Pl) (x:Int) (w:World):Calls Tryz.prog 78 #[plV p,.int .i64 x] w (Ret (.int .i64 (p.nodW x)) w):=by
 go_enter Tryz.func78,Tryz.ntmps78
 go_wp2_with (go_at_call 160;refine (pcount_any p _ _).mono ?_;rintro e w' hr;obtain ⟨rfl,s,rfl⟩:=hr.over;clear hr)
 go_ret
 exact Ret.int rfl (by repeat (first | exact ext_refl _ | apply ext_over | apply ext_alloc))
theorem one_any (n m:Int) (w:World):Calls Tryz.prog 79 #[.int .i64 n,.int .i64 m] w (Ret (.agg #[.int .i64 n,.int .i64 0,.int .i64 (wrap64 (m - 1))]) w):=by
 go_enter Tryz.func79,Tryz.ntmps79
 go_wp2
 exact bodyPost_ret (v:=.agg #[.int .i64 n,.int .i64 0,.int .i64 (wrap64 (m - 1))]) (by simp [results,Tryz.results79,go_sem]) rfl (Ret.mk (by repeat (first | exact ext_refl _ | apply ext_over | apply ext_alloc)))
def BdTo (l:List T3) (k:Nat):Prop:=∀ i,i < k → (tN l i).b ≤ (tN l i).a ∧ (tN l i).a ≤ (tN l i).c
theorem within_any (l:List T3) (v:Value) (w:World) (r:Bool) (hr:Hid (r = true ↔ Bd l)) (hT:Ts w v l) (hl:l.length ≤ 6) :
  Calls Tryz.prog 159 #[v] w (Ret (.bool r) w):=by
 have HT:=Lib.hid hT
 obtain ⟨a0,cap,rfl,hc,hcell⟩:=hT
 clear hcell
 go_enter Tryz.func159,Tryz.ntmps159
 go_wp2
 go_loopw [7] (fun i wr => ∃ k:Nat,k ≤ l.length ∧ i = .int .i64 (k:Int) ∧ BdTo l k ∧ Ext w wr) (fun i _ => (l.length - intOf i).toNat)
 case atStart => exact ⟨0,Nat.zero_le _,rfl,fun _ h => absurd h (Nat.not_lt_zero _),ext_refl w⟩
 case round =>
  obtain ⟨k,hk,rfl,hf,hx⟩:=hrel
  have HF:=Lib.hid hf
  have HX:=Lib.hid hx
  clear hf hx
  by_cases hlt:k < l.length
  ·obtain ⟨b,off,rfl,hb,hcells⟩:=(HT.out.ext HX.out).at (by omega)
   obtain ⟨c0,c1,c2⟩:=hcells k hlt
   clear hcells
   by_cases h0:(tN l k).b ≤ (tN l k).a
   ·by_cases h1:(tN l k).a ≤ (tN l k).c
    ·go_wp2
     refine ⟨⟨k+1,by omega,by go_num,fun i hi => ?_,ext_alloc _ HX.out⟩,by simp [intOf];omega⟩
     by_cases e:i = k
     ·subst e;exact ⟨h0,h1⟩
     ·exact HF.out i (by omega)
    ·have h2:(tN l k).c < (tN l k).a:=by omega
     have E:Hid (false = r):=by
      refine Lib.hid ?_
      cases r with
      | false => rfl
      | true => exact absurd (hr.out.1 rfl k hlt).2 h1
     clear h1
     go_wp2
     go_ret
     exact Ret.bool E.out (ext_alloc _ HX.out)
   ·have h2:(tN l k).a < (tN l k).b:=by omega
    have E:Hid (false = r):=by
     refine Lib.hid ?_
     cases r with
     | false => rfl
     | true => exact absurd (hr.out.1 rfl k hlt).1 h0
    clear h0
    go_wp2
    go_ret
    exact Ret.bool E.out (ext_alloc _ HX.out)
  ·obtain rfl:k = l.length:=by omega
   have E:Hid (true = r):=Lib.hid (hr.out.2 HF.out).symm
   go_wp2
   go_ret
   exact Ret.bool E.out HX.out
theorem formed_any (p:Pl) (w:World) (r:Bool) (hr:Hid (r = true ↔ p.ok)):Calls Tryz.prog 107 #[plV p] w (Ret (.bool r) w):=by
 have HR:Hid (r = true ↔ Bd p.bds):=Lib.hid (hr.out.trans p.bds_ok.symm)
 clear hr
 go_enter Tryz.func107,Tryz.ntmps107
 go_wp2_with fail
 refine (within_any p.bds _ _ r HR (ts_new _ _ _ _ _ _ (by simp) rfl rfl) (by show 6 ≤ 6;omega)).mono ?_
 rintro e w' hr'
 obtain ⟨rfl,s,rfl⟩:=hr'.over
 clear hr'
 go_wp2
 go_ret
 exact Ret.mk (by repeat (first | exact ext_refl _ | apply ext_over | apply ext_alloc))
theorem place_any (p:Pl) (at_:Int) (l:List T3) (v:Value) (w:World) (r:Int) (hr:Hid (PlaceSpec p at_ l r)) (hT:Ts w v l) (hl:l.length ≤ 6) :
  Calls Tryz.prog 77 #[plV p,.int .i64 at_,v] w (Ret (.int .i64 r) w):=by
 have HT:=Lib.hid hT
 obtain ⟨a0,cap,rfl,hc,hcell⟩:=hT
 clear hcell
 by_cases hk:p.ok
 ·have F:=Lib.hid hk
  by_cases hb:Bd l
  ·have E:Hid (at_ = r):=Lib.hid (hr.out.1 hk hb).symm
   have G:=Lib.hid hb
   clear hk hb hr
   go_enter Tryz.func77,Tryz.ntmps77
   go_wp2_with (first | (go_at_call 107;refine (formed_any p _ true (hid_yes F.out)).mono ?_;rintro e w' hr;obtain ⟨rfl,s,rfl⟩:=hr.over;clear hr) | (go_at_call 159;refine (within_any l _ _ true (hid_yes G.out) (HT.out.ext (by repeat (first | exact ext_refl _ | apply ext_over | apply ext_alloc))) hl).mono ?_;rintro e w' hr;obtain ⟨rfl,s1,rfl⟩:=hr.over;clear hr))
   go_ret
   exact Ret.int E.out (by repeat (first | exact ext_refl _ | apply ext_over | apply ext_alloc))
  ·have E:Hid (-1 = r):=Lib.hid (hr.out.2 fun h => hb h.2).symm
   have G:=Lib.hid hb
   clear hk hb hr
   go_enter Tryz.func77,Tryz.ntmps77
   go_wp2_with (first | (go_at_call 107;refine (formed_any p _ true (hid_yes F.out)).mono ?_;rintro e w' hr;obtain ⟨rfl,s,rfl⟩:=hr.over;clear hr) | (go_at_call 159;refine (within_any l _ _ false (hid_no G.out) (HT.out.ext (by repeat (first | exact ext_refl _ | apply ext_over | apply ext_alloc))) hl).mono ?_;rintro e w' hr;obtain ⟨rfl,s1,rfl⟩:=hr.over;clear hr))
   go_ret
   exact Ret.int E.out (by repeat (first | exact ext_refl _ | apply ext_over | apply ext_alloc))
 ·have E:Hid (-1 = r):=Lib.hid (hr.out.2 fun h => hk h.1).symm
  have F:=Lib.hid hk
  clear hk hr
  go_enter Tryz.func77,Tryz.ntmps77
  go_wp2_with (go_at_call 107;refine (formed_any p _ false (hid_no F.out)).mono ?_;rintro e w' hr;obtain ⟨rfl,s,rfl⟩:=hr.over;clear hr)
  go_ret
  exact Ret.int E.out (by repeat (first | exact ext_refl _ | apply ext_over | apply ext_alloc))
end Go.Proofs.YthjklbonebnekaaGreat

