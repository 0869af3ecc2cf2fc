/-
  What the calls of Stash and Retire come to. Conditions: those of each theorem.
-/
import Derived.Test.YthjklbonebnekaaGreatGab
import Derived.Test.YthjklbonebnekaaGreatGac
import Derived.Test.YthjklbonebnekaaGreatGar
import Derived.Test.YthjklbonebnekaaGreatGav
import Derived.Test.YthjklbonebnekaaGreatGaw
import Derived.Test.YthjklbonebnekaaGreatGax
import Derived.Test.YthjklbonebnekaaGreatGba
import Derived.Test.YthjklbonebnekaaGreatGbe
import Derived.Test.YthjklbonebnekaaGreatGbf
import Derived.Test.YthjklbonebnekaaGreatGbg
import Derived.Test.YthjklbonebnekaaGreatGbk
import Derived.Test.YthjklbonebnekaaGreatGbm
import Derived.Test.YthjklbonebnekaaGreatGbn
import Derived.Laws.StructEq
import Derived.Deep.Cut
set_option maxRecDepth 8000
set_option maxHeartbeats 4000000
namespace Go.Proofs.YthjklbonebnekaaGreat
open Go Go.RowKit
theorem st1_PT (p:Pl) (t n:Int) (B1 B2 B3:Nat) (w:World) (hp:p.ok) (hq0:0 ≤ n) (hq1:n < 4611686018427387904) (k1:PBox B1 p w) (k2:w.heap[B2]? = some (.cells #[.int .i64 t] 3 (0,0))) (k3:w.heap[B3]? = some (.cells #[.int .i64 n] 3 (0,0))) :
  Calls Tryz.prog 166 #[.pointer (some ⟨B1,0,none⟩),.pointer (some ⟨B2,0,none⟩),.pointer (some ⟨B3,0,none⟩)] w (RetP (PT kI (putT p t n)) noF w):=by
 have qk1:=heap_lt k1
 have ⟨c0,c1,c2,c3,c4,c5,lt⟩:=PBox.plc k1
 have qk2:=heap_lt k2
 have d2_0:=cell_at (o:=0) k2 rfl
 have e2:=cell_lt d2_0
 have qk3:=heap_lt k3
 have d3_0:=cell_at (o:=0) k3 rfl
 have e3:=cell_lt d3_0
 replace k1:=Lib.hid k1
 replace k2:=Lib.hid k2
 replace k3:=Lib.hid k3
 go_enter Tryz.func166,Tryz.ntmps166
 go_wp2_with (go_at_call 167;refine Hid.out ?_)
 refine Lib.hid ?_
 have ⟨hE,hb0,hW⟩:=al1 w (.cells #[.int .i64 0,.int .i64 0,.int .i64 0,.int .u64 0,.int .u64 0,.nilFunc,.pointer none] 62)
 generalize (w.alloc (.cells #[.int .i64 0,.int .i64 0,.int .i64 0,.int .u64 0,.int .u64 0,.nilFunc,.pointer none] 62)) = W at hE hb0 hW ⊢
 replace k1:=(hE.block _ (heap_lt k1.out)).trans k1.out
 replace k2:=(hE.block _ (heap_lt k2.out)).trans k2.out
 replace k3:=(hE.block _ (heap_lt k3.out)).trans k3.out
 clear hW
 clear c0 c1 c2 c3 c4 c5 lt d2_0 e2 d3_0 e3
 refine (rput_PT p t n W hp hq0 hq1).mono ?_
 rintro e w' hR
 obtain ⟨v',F',rfl,hX,hp,hbn,hsub,hnF,hbq⟩:=hR.tail (G:=noF) (w.heap.size) hE (heap_lt hb0) (fun h => h) (fun _ h => h.elim)
 have hbx:=hbq.trans hb0
 clear hbq hR
 clear hE hb0 k1 k2 k3
 obtain ⟨y,a2,fn2,rfl,HFN,HX⟩:=tlI hp hX hbx hbn hsub hnF (by omega)
 obtain ⟨c0,c1,c2,c3,c4,c5,c6,cz,ll⟩:=sev_of hbx
 clear hX hbx hp hbn hsub hnF
 rcases HFN.out with rfl | ⟨g',caps',rfl⟩
 all_goals
  go_wp2
  clear c0 c1 c2 c3 c4 c5 c6 cz ll
  obtain ⟨hX,hB,hP⟩:=HX.out
  clear HX
  generalize (World.setCell _ (⟨w.heap.size,6,none⟩ : Addr) _) = Z at hX hB hP ⊢
  obtain ⟨c0,c1,c2,c3,c4,c5,c6,cz,ll⟩:=sev_of hB
  exact bodyPost_ret (by simp only [results,Tryz.results166,go_sem];simp [go_sem,c0,c1,c2,c3,c4,c5,c6]) rfl ⟨_,F',rfl,hX,hP⟩
theorem st1_AT (p:Pl) (t n:Int) (B1 B2 B3:Nat) (w:World) (hp:p.ok) (hq0:0 ≤ n) (hq1:n < 4611686018427387904) (k1:PBox B1 p w) (k2:w.heap[B2]? = some (.cells #[.int .i64 t] 3 (0,0))) (k3:w.heap[B3]? = some (.cells #[.int .i64 n] 3 (0,0))):AT (putT p t n) (fun j => j = B1 ∨ j = B2 ∨ j = B3) (.func (.func 166) #[] #[.pointer (some ⟨B1,0,none⟩),.pointer (some ⟨B2,0,none⟩),.pointer (some ⟨B3,0,none⟩)]) w:=
 ⟨_,_,rfl,enters_of Tryz.func166 (by kernel_rfl) rfl,fun w' ha => (st1_PT p t n B1 B2 B3 w' hp hq0 hq1 ((ha B1 (.inl rfl)).trans k1) ((ha B2 (.inr (.inl rfl))).trans k2) ((ha B3 (.inr (.inr rfl))).trans k3)).mono fun _ _ h => h.mono fun _ h => h.elim⟩
theorem st2_PT (n r:Int) (B1:Nat) (w:World)  (k1:w.heap[B1]? = some (.cells #[.int .i64 n] 3 (0,0))) :
  Calls Tryz.prog 168 #[.int .i64 r,.pointer (some ⟨B1,0,none⟩)] w (RetP (PT kI (stash1T n r)) noF w):=by
 by_cases hr:r = -1
 ·subst hr
  have eT:stash1T n (-1) = .done (-1):=by unfold stash1T;rw [if_pos rfl]
  rw [eT]
  clear eT
  have qk1:=heap_lt k1
  have d1_0:=cell_at (o:=0) k1 rfl
  have e1:=cell_lt d1_0
  replace k1:=Lib.hid k1
  go_enter Tryz.func168,Tryz.ntmps168
  go_wp2_with (go_at_call 141;refine Hid.out ?_)
  refine Lib.hid ?_
  have ⟨hE,hb0,hW⟩:=al1 w (.cells #[.int .i64 0,.int .i64 0,.int .i64 0,.int .u64 0,.int .u64 0,.nilFunc,.pointer none] 62)
  generalize (w.alloc (.cells #[.int .i64 0,.int .i64 0,.int .i64 0,.int .u64 0,.int .u64 0,.nilFunc,.pointer none] 62)) = W at hE hb0 hW ⊢
  replace k1:=(hE.block _ (heap_lt k1.out)).trans k1.out
  clear hW
  clear d1_0 e1
  refine (doneI_PT (-1) W).mono ?_
  rintro e w' hR
  obtain ⟨v',F',rfl,hX,hp,hbn,hsub,hnF,hbq⟩:=hR.tail (G:=noF) (w.heap.size) hE (heap_lt hb0) (fun h => h) (fun _ h => h.elim)
  have hbx:=hbq.trans hb0
  clear hbq hR
  clear hE hb0 k1
  obtain ⟨y,a2,fn2,rfl,HFN,HX⟩:=tlI hp hX hbx hbn hsub hnF (by omega)
  obtain ⟨c0,c1,c2,c3,c4,c5,c6,cz,ll⟩:=sev_of hbx
  clear hX hbx hp hbn hsub hnF
  rcases HFN.out with rfl | ⟨g',caps',rfl⟩
  all_goals
   go_wp2
   clear c0 c1 c2 c3 c4 c5 c6 cz ll
   obtain ⟨hX,hB,hP⟩:=HX.out
   clear HX
   generalize (World.setCell _ (⟨w.heap.size,6,none⟩ : Addr) _) = Z at hX hB hP ⊢
   obtain ⟨c0,c1,c2,c3,c4,c5,c6,cz,ll⟩:=sev_of hB
   exact bodyPost_ret (by simp only [results,Tryz.results168,go_sem];simp [go_sem,c0,c1,c2,c3,c4,c5,c6]) rfl ⟨_,F',rfl,hX,hP⟩
 ·have eT:stash1T n r = .done n:=by unfold stash1T;rw [if_neg hr]
  rw [eT]
  clear eT
  have qk1:=heap_lt k1
  have d1_0:=cell_at (o:=0) k1 rfl
  have e1:=cell_lt d1_0
  replace k1:=Lib.hid k1
  go_enter Tryz.func168,Tryz.ntmps168
  go_wp2_with (go_at_call 141;refine Hid.out ?_)
  refine Lib.hid ?_
  have ⟨hE,hb0,hW⟩:=al1 w (.cells #[.int .i64 0,.int .i64 0,.int .i64 0,.int .u64 0,.int .u64 0,.nilFunc,.pointer none] 62)
  generalize (w.alloc (.cells #[.int .i64 0,.int .i64 0,.int .i64 0,.int .u64 0,.int .u64 0,.nilFunc,.pointer none] 62)) = W at hE hb0 hW ⊢
  replace k1:=(hE.block _ (heap_lt k1.out)).trans k1.out
  clear hW
  clear d1_0 e1
  refine (doneI_PT n W).mono ?_
  rintro e w' hR
  obtain ⟨v',F',rfl,hX,hp,hbn,hsub,hnF,hbq⟩:=hR.tail (G:=noF) (w.heap.size) hE (heap_lt hb0) (fun h => h) (fun _ h => h.elim)
  have hbx:=hbq.trans hb0
  clear hbq hR
  clear hE hb0 k1
  obtain ⟨y,a2,fn2,rfl,HFN,HX⟩:=tlI hp hX hbx hbn hsub hnF (by omega)
  obtain ⟨c0,c1,c2,c3,c4,c5,c6,cz,ll⟩:=sev_of hbx
  clear hX hbx hp hbn hsub hnF
  rcases HFN.out with rfl | ⟨g',caps',rfl⟩
  all_goals
   go_wp2
   clear c0 c1 c2 c3 c4 c5 c6 cz ll
   obtain ⟨hX,hB,hP⟩:=HX.out
   clear HX
   generalize (World.setCell _ (⟨w.heap.size,6,none⟩ : Addr) _) = Z at hX hB hP ⊢
   obtain ⟨c0,c1,c2,c3,c4,c5,c6,cz,ll⟩:=sev_of hB
   exact bodyPost_ret (by simp only [results,Tryz.results168,go_sem];simp [go_sem,c0,c1,c2,c3,c4,c5,c6]) rfl ⟨_,F',rfl,hX,hP⟩
theorem st2_CT (n:Int) (B1:Nat) (w:World)  (k1:w.heap[B1]? = some (.cells #[.int .i64 n] 3 (0,0))) :
  CT kI kI (fun r => stash1T n r) (fun j => j = B1) (.func (.func 168) #[] #[.pointer (some ⟨B1,0,none⟩)]) w:=by
 refine ⟨_,_,rfl,enters_of Tryz.func168 (by kernel_rfl) rfl,fun r w' ha => ?_⟩
 exact (st2_PT n r B1 w'  ((ha B1 (rfl)).trans k1)).mono fun _ _ h => h.mono fun j h => h.elim
theorem stash_PT (p:Pl) (t n:Int) (N:Nat) (w:World) (hp:p.ok) (hq0:0 ≤ n) (hq1:n < 4611686018427387904)  :
  Calls Tryz.prog 88 #[plV p,.int .i64 t,.int .i64 n] w (RetP (PT kI (stashT p t n N)) noF w):=by
 go_enter Tryz.func88,Tryz.ntmps88
 go_wp2_with (go_at_call 67;refine Hid.out ?_)
 refine Lib.hid ?_
 have ⟨hE,hb0,hb1,hb2,hb3,hW⟩:=al4 w (.cells #[.int .i64 p.n,.int .i64 p.t,.int .i64 p.r,.int .i64 p.d,.int .i64 p.b,.int .i64 p.g] 23) (.cells #[.int .i64 t] 3) (.cells #[.int .i64 n] 3) (.cells #[.int .i64 0,.int .i64 0,.int .i64 0,.int .u64 0,.int .u64 0,.nilFunc,.pointer none] 62)
 generalize ((((w.alloc (.cells #[.int .i64 p.n,.int .i64 p.t,.int .i64 p.r,.int .i64 p.d,.int .i64 p.b,.int .i64 p.g] 23)).alloc (.cells #[.int .i64 t] 3)).alloc (.cells #[.int .i64 n] 3)).alloc (.cells #[.int .i64 0,.int .i64 0,.int .i64 0,.int .u64 0,.int .u64 0,.nilFunc,.pointer none] 62)) = W at hE hb0 hb1 hb2 hb3 hW ⊢
 clear hW
 have hAT:=st1_AT p t n w.heap.size (w.heap.size+1) (w.heap.size+1+1) W hp hq0 hq1 hb0 hb1 hb2
 refine (twc_PT p t N (putT p t n) _ _ _ W hAT hp (fun j h => by rcases h with rfl | rfl | rfl;exact heap_lt hb0;exact heap_lt hb1;exact heap_lt hb2)).mono ?_
 rintro e w1 ⟨v1,F1,rfl,hx,hp1,hbn1,hsub⟩
 have hn1:¬ F1 (w.heap.size+1+1+1):=fun h => (hsub _ h).elim (fun h => by rcases h with h | h | h;omega;omega;omega) fun h => by have:=heap_lt hb3;omega
 have hs1:∀ j,F1 j → (fun j => j = w.heap.size ∨ j = w.heap.size+1 ∨ j = w.heap.size+1+1) j ∨ w.heap.size ≤ j:=fun j hj => (hsub j hj).elim .inl fun h => .inr (Nat.le_trans hE.size h)
 replace hE:=ext_trans hE hx
 replace hb0:=(hx.block _ (heap_lt hb0)).trans hb0
 replace hb1:=(hx.block _ (heap_lt hb1)).trans hb1
 replace hb2:=(hx.block _ (heap_lt hb2)).trans hb2
 replace hb3:=(hx.block _ (heap_lt hb3)).trans hb3
 clear hx hsub
 clear hAT
 replace hE:=Lib.hid hE
 replace hb0:=Lib.hid hb0
 replace hb1:=Lib.hid hb1
 replace hb2:=Lib.hid hb2
 replace hb3:=Lib.hid hb3
 replace hp1:=Lib.hid hp1
 replace hbn1:=Lib.hid hbn1
 replace hs1:=Lib.hid hs1
 replace hn1:=Lib.hid hn1
 go_wp2_with (go_at_call 146;refine Hid.out ?_)
 refine Lib.hid ?_
 replace hE:=hE.out
 replace hb0:=hb0.out
 replace hb1:=hb1.out
 replace hb2:=hb2.out
 replace hb3:=hb3.out
 replace hp1:=hp1.out
 replace hbn1:=hbn1.out
 replace hs1:=hs1.out
 replace hn1:=hn1.out
 have hCT:=st2_CT n (w.heap.size+1+1) w1 hb2
 refine (then_II _ _ F1 _ v1 _ w1 hp1 hCT hbn1 (fun j h => by subst h;exact heap_lt hb2)).mono ?_
 rintro e w' hR
 obtain ⟨v',F',rfl,hX,hp,hbn,hsub,hnF,hbq⟩:=hR.tail (G:=noF) (w.heap.size+1+1+1) hE (heap_lt hb3) (fun h => by rcases h with h | h;exact hn1 h;omega) (fun j h => by rcases h with h | h;exact (hs1 j h).elim (fun h => .inr (by omega)) .inr;exact .inr (by omega))
 have hbx:=hbq.trans hb3
 clear hbq hR
 clear hE hb0 hb1 hb2 hb3 hp1 hbn1 hs1 hn1 hCT
 obtain ⟨y,a2,fn2,rfl,HFN,HX⟩:=tlI hp hX hbx hbn hsub hnF (by omega)
 obtain ⟨c0,c1,c2,c3,c4,c5,c6,cz,ll⟩:=sev_of hbx
 clear hX hbx hp hbn hsub hnF
 rcases HFN.out with rfl | ⟨g',caps',rfl⟩
 all_goals
  go_wp2
  clear c0 c1 c2 c3 c4 c5 c6 cz ll
  obtain ⟨hX,hB,hP⟩:=HX.out
  clear HX
  generalize (World.setCell _ (⟨w.heap.size+1+1+1,6,none⟩ : Addr) _) = Z at hX hB hP ⊢
  obtain ⟨c0,c1,c2,c3,c4,c5,c6,cz,ll⟩:=sev_of hB
  exact bodyPost_ret (by simp only [results,Tryz.results88,go_sem];simp [go_sem,c0,c1,c2,c3,c4,c5,c6]) rfl ⟨_,F',rfl,hX,hP⟩
instance grDec:DecidableEq Gr:=fun x y => decidable_of_iff (x.n = y.n ∧ x.g = y.g ∧ x.e = y.e) (by cases x;cases y;simp)
theorem word0:St.word ⟨0,0,0⟩ = 0#64:=by
 unfold St.word
 rw [if_pos (by unfold St.ok;decide)]
 rfl
theorem AIn.fresh {p:Pl} (hp:p.ok) {M:MS} (hF:FL p M (rfr p.n.toNat 0) 0) (hz:Zer p M) {t:Int} (h0:0 ≤ t) (h1:t < p.t):AIn p t M (rfr p.n.toNat 0) [] 0 (fun _ => ⟨0,0,0⟩) (fun _ => 0#64):=by
 refine ⟨hF,low_rts hp (zer_low hp hz) h0 h1,by simpa using hF.nd,fun n hn => ?_,fun _ _ => by unfold St.ok;decide,fun i hi => low_hz hp (zer_low hp hz) hi⟩
 rw [word0]
 exact hz _ (sd_ne hp hn hn).1 fun m hm => (sd_ne hp hn hm).2.1
section
variable {p:Pl} {lo hi:Nat} {L:Lay} {B:Nat} {w0:World} {bs:List (Nat × Obj)} {M M':MS} {wr wr':World}
end
def RetRR (lo hi:Nat) (L:Lay) (M':MS) (k:Nat) (x:Rz) (w:World) (e:Ending) (w':World):Prop:=
 e = .returned (.tuple #[.agg #[.int .i64 x.e,.int .u64 (U x.v)],.int .i64 (k:Int),.bool true]) ∧ MemIn lo hi L M' w' ∧ Fr lo hi w w'
theorem runR_any {lo hi:Nat} {L:Lay} {M M':MS} {t:Tr Rz} {k:Nat} {x:Rz} (hR:Runs t M k M' x) (most:Int) (hk:(k:Int) ≤ most) (hmo:most ≤ 1099511627776) (F:Nat → Prop) (v:Value) (w:World) (hP:PT kR t F v w) (hF:Bnd F w) (hO:∀ j,F j → j < lo ∨ hi ≤ j) (hM:MemIn lo hi L M w) :
  Calls Tryz.prog 37 #[v,.pointer (some ⟨L.bm,0,none⟩),.agg #[.int .i64 0,.int .u64 (U 1#64)],.int .i64 most] w (RetRR lo hi L M' k x w):=
 (run_R t F v 0 1#64 most w _ hmo (hR.run (by omega)) hP hF hO hM).mono fun _ _ h => h
theorem runR_at {lo hi:Nat} {L:Lay} {M M':MS} {t:Tr Rz} {k:Nat} {x:Rz} (hR:Runs t M k M' x) (e v:Int) (he:Hid (x.e = e)) (hv:Hid (U x.v = v)) (most:Int) (hk:(k:Int) ≤ most) (hmo:most ≤ 1099511627776) (F:Nat → Prop) (vv:Value) (w:World) (hP:PT kR t F vv w) (hF:Bnd F w) (hO:∀ j,F j → j < lo ∨ hi ≤ j) (hM:MemIn lo hi L M w) :
  Calls Tryz.prog 37 #[vv,.pointer (some ⟨L.bm,0,none⟩),.agg #[.int .i64 0,.int .u64 (U 1#64)],.int .i64 most] w fun en w' => en = .returned (.tuple #[.agg #[.int .i64 e,.int .u64 v],.int .i64 (k:Int),.bool true]) ∧ MemIn lo hi L M' w' ∧ Fr lo hi w w':=
 (runR_any hR most hk hmo F vv w hP hF hO hM).mono fun en w' ⟨h1,h2,h3⟩ => ⟨by rw [h1,he.out,hv.out],h2,h3⟩
theorem NIn.fresh {p:Pl} (hp:p.ok) {M:MS} (hF:FL p M (rfr p.n.toNat 0) 0) (hz:Zer p M):NIn p M (rfr p.n.toNat 0) 0 (fun _ => []) (fun _ => ⟨0,0,0⟩) (fun _ => 0#64) (fun _ _ => 0#64) (fun _ => 0#64):=by
 have ha:=fun t h0 h1 => AIn.fresh hp hF hz (t:=t) h0 h1
 have ht:(0:Int) < p.t:=by unfold Pl.ok at hp;omega
 have a0:=ha 0 (by omega) ht
 refine ⟨hF,fun t h0 h1 => (ha t h0 h1).rt,fun _ _ _ => List.nodup_nil,fun _ _ _ n hn => by simp at hn,fun _ _ _ _ _ _ _ n hn => by simp at hn,a0.st,a0.ok,a0.hz,fun n hn o h0 h1 => ?_,fun j h0 h1 => ?_⟩
 ·have f:=fd_pl hp hn h0 h1
  have:=hn.1
  refine hz _ (by omega) fun m hm => ?_
  have g:=fd_pl hp hm (o:=0) (by omega) (by omega)
  have:=hm.1
  omega
 ·obtain ⟨b1,b2,b3⟩:=lows hp
  refine hz _ (by omega) fun m hm => ?_
  have g:=fd_pl hp hm (o:=0) (by omega) (by omega)
  have:=hm.1
  omega
structure CBs (p:Pl) (lo hi:Nat) (L:Lay) (w0:World) (bs:List (Nat × Obj)) (M:MS) (wr:World):Prop where
 m:MemIn lo hi L M wr
 mg:Mg p M
 ex:Ext w0 wr
 bx:∀ x ∈ bs,((x.1 < lo ∨ hi ≤ x.1) ∧ w0.heap.size ≤ x.1) ∧ wr.heap[x.1]? = some x.2
section
variable {p:Pl} {lo hi:Nat} {L:Lay} {w0:World} {bs:List (Nat × Obj)} {M M':MS} {wr wr':World}
theorem CBs.ext (h:CBs p lo hi L w0 bs M wr) (hx:Ext wr wr'):CBs p lo hi L w0 bs M wr':=⟨h.m.ext hx,h.mg,ext_trans h.ex hx,fun x hb => ⟨(h.bx x hb).1,(hx.block _ (heap_lt (h.bx x hb).2)).trans (h.bx x hb).2⟩⟩
theorem CBs.ran (h:CBs p lo hi L w0 bs M wr) (hm:MemIn lo hi L M' wr') (hf:Fr lo hi wr wr') (hG:Mg p M') (h1:w0.heap.size ≤ lo):CBs p lo hi L w0 bs M' wr':=
 ⟨hm,hG,hf.below h.ex h1,fun x hb => ⟨(h.bx x hb).1,(hf.block _ (heap_lt (h.bx x hb).2) (h.bx x hb).1.1).trans (h.bx x hb).2⟩⟩
theorem CBs.new (h:CBs p lo hi L w0 bs M wr) (o:Obj):CBs p lo hi L w0 ((wr.heap.size,o) :: bs) M (wr.alloc o):=by
 have h1:=h.ext (ext_alloc o (ext_refl wr))
 refine ⟨h1.m,h1.mg,h1.ex,fun x hx => ?_⟩
 rcases List.mem_cons.1 hx with rfl | hx
 ·exact ⟨⟨.inr h.m.top,h.ex.size⟩,heap_at wr o _ rfl⟩
 ·exact h1.bx x hx
theorem CBs.sub (h:CBs p lo hi L w0 bs M wr) {cs:List (Nat × Obj)} (hs:∀ x ∈ cs,x ∈ bs):CBs p lo hi L w0 cs M wr:=⟨h.m,h.mg,h.ex,fun x hx => h.bx x (hs x hx)⟩
theorem CBs.at (h:CBs p lo hi L w0 bs M wr) {b:Nat} {o:Obj} (hb:(b,o) ∈ bs):wr.heap[b]? = some o:=(h.bx _ hb).2
end
theorem CBs.of {p:Pl} {lo hi:Nat} {L:Lay} {w0:World} {M:MS} {wr:World} (hm:MemIn lo hi L M wr) (hg:Mg p M) (hx:Ext w0 wr):CBs p lo hi L w0 [] M wr:=⟨hm,hg,hx,fun _ h => by simp at h⟩
theorem CBs.add {p:Pl} {lo hi:Nat} {L:Lay} {w0:World} {bs:List (Nat × Obj)} {M:MS} {wr:World} (h:CBs p lo hi L w0 bs M wr) {b:Nat} {o:Obj} (h1:b < lo ∨ hi ≤ b) (h2:w0.heap.size ≤ b) (h3:wr.heap[b]? = some o):CBs p lo hi L w0 ((b,o) :: bs) M wr:=
 ⟨h.m,h.mg,h.ex,fun x hx => by
  rcases List.mem_cons.1 hx with rfl | hx
  ·exact ⟨⟨h1,h2⟩,h3⟩
  ·exact h.bx x hx⟩
theorem hn_pos (h:Hn) (k:h.ok):0 < U h.word:=by
 rw [hU_word h k]
 unfold Hn.num
 unfold Hn.ok at k
 omega
abbrev p2s:Pl:=⟨2,1,4,0,1,1⟩
theorem small_any (w:World):Calls Tryz.prog 42 #[] w (Ret (plV p2s) w):=by
 go_enter Tryz.func42,Tryz.ntmps42
 go_wp2
 exact bodyPost_ret (v:=plV p2s) (by simp [results,Tryz.results42,go_sem]) rfl (Ret.mk (by repeat (first | exact ext_refl _ | apply ext_alloc | (refine ext_set _ ?_ ?_;exact Nat.le_refl _))))
theorem thenDUR (r:BitVec 64) (a:Acc) (f:BitVec 64 → Tr (Rz)) (F:Nat → Prop) (fn:Value) (w:World) (hC:CT kU kR f F fn w) (hF:Bnd F w) :
  Calls Tryz.prog 182 #[.agg #[.int .u64 (U r),.int .i64 a.op,.int .i64 a.at_,.int .u64 (U a.a),.int .u64 (U a.b),.nilFunc,.pointer none],fn] w (RetP (PT kR (f r)) F w):=by
 obtain ⟨g,caps,rfl,hg,hc⟩:=hC
 have HN:=Lib.hid hc
 unfold Enters at hg
 clear hc
 go_enter Tryz.func182,Tryz.ntmps182
 go_wp2_with (go_at_call 214;refine (overYU (U r) a.op a.at_ (U a.a) (U a.b) _).mono ?_;rintro e w1 ⟨rfl,hx⟩;refine Hid.out ?_)
 refine Lib.hid ?_
 have hb2:=(hx.block (w.heap.size+1) (by simp)).trans ((Below.heap_alloc _ _ _ (by simp)).trans (heap_at (w.alloc (.cells #[.int .u64 (U r),.int .i64 a.op,.int .i64 a.at_,.int .u64 (U a.a),.int .u64 (U a.b),.nilFunc,.pointer none] 208)) _ _ (by simp)))
 have hb3:=(hx.block (w.heap.size+1+1) (by simp)).trans (heap_at ((w.alloc (.cells #[.int .u64 (U r),.int .i64 a.op,.int .i64 a.at_,.int .u64 (U a.a),.int .u64 (U a.b),.nilFunc,.pointer none] 208)).alloc (.cells #[.func (.func g) #[] caps] 97)) _ _ (by simp))
 have hE:Ext w w1:=ext_trans (ext_alloc _ (ext_alloc _ (ext_alloc _ (ext_refl w)))) hx
 have hs1:w.heap.size+1+1 < w1.heap.size:=heap_lt hb3
 have k0:=cell_at (o:=0) hb2 rfl
 have l0:=heap_lt hb2
 have HE:=Lib.hid (id hE)
 have HB3:=Lib.hid (hb3)
 have hsa:w1.heap.size = w1.heap.size+0:=by simp
 have HCX:=Lib.hid (HN.out r w1 (Agr.of_ext HE.out hF))
 simp only [kU] at HCX
 clear hx hb2 hb3 hE HN
 go_wp2_with (refine HCX.out.mono ?_;rintro e2 w2 ⟨v',F',rfl,hx,hp,hbn,hsub⟩;refine Hid.out ?_)
 refine Lib.hid ?_
 have hbx:=(hx.block _ (heap_lt HB3.out)).trans HB3.out
 have hnF:¬ F' (w.heap.size+1+1):=fun h => by
  rcases hsub _ h with h | h
  ·have:=hF _ h;omega
  ·omega
 obtain ⟨y0,y1,a2,fn2,rfl,HFN,HX⟩:=tlR hp (ext_trans HE.out hx) hbx hbn (fun j hj => (hsub j hj).imp_right fun h => (by omega:w.heap.size ≤ j)) hnF (by omega)
 obtain ⟨c0,c1,c2,c3,c4,c5,c6,c7,cz,ll⟩:=eit_of hbx
 clear hx hbx hp hbn hsub hnF HCX HE HB3
 rcases HFN.out with rfl | ⟨g',caps',rfl⟩
 all_goals
  go_wp2
  clear c0 c1 c2 c3 c4 c5 c6 c7 cz ll
  obtain ⟨hX,hB,hP⟩:=HX.out
  clear HX
  generalize (World.setCell _ (⟨w.heap.size+1+1,7,none⟩ : Addr) _) = Z at hX hB hP ⊢
  obtain ⟨c0,c1,c2,c3,c4,c5,c6,c7,cz,ll⟩:=eit_of hB
  exact bodyPost_ret (by simp only [results,Tryz.results182,go_sem];simp [go_sem,c0,c1,c2,c3,c4,c5,c6,c7]) rfl ⟨_,F',rfl,hX,hP⟩
theorem thenAUR (a:Acc) (g0:FuncId) (caps0:Array Value) (g:FuncId) (caps:Array Value) (w:World) :
  Calls Tryz.prog 182 #[.agg #[.int .u64 0,.int .i64 a.op,.int .i64 a.at_,.int .u64 (U a.a),.int .u64 (U a.b),.func (.func g0) #[] caps0,.pointer none],.func (.func g) #[] caps] w fun e w' => e = .returned (.agg #[.int .i64 0,.int .u64 0,.int .i64 a.op,.int .i64 a.at_,.int .u64 (U a.a),.int .u64 (U a.b),.func (.func 233) #[] #[.pointer (some ⟨w.heap.size,0,none⟩),.pointer (some ⟨w.heap.size+1,0,none⟩)],.pointer none]) ∧ Ext w w' ∧ w'.heap[w.heap.size]? = some (.cells #[.int .u64 0,.int .i64 a.op,.int .i64 a.at_,.int .u64 (U a.a),.int .u64 (U a.b),.func (.func g0) #[] caps0,.pointer none] 208 (0,0)) ∧ w'.heap[w.heap.size+1]? = some (.cells #[.func (.func g) #[] caps] 97 (0,0)):=by
 go_enter Tryz.func182,Tryz.ntmps182
 go_wp2_with (go_at_call 214;refine (ovnU a _ _ _ _).mono ?_;rintro e w1 ⟨rfl,hx⟩;refine Hid.out ?_)
 refine Lib.hid ?_
 have hb1:=(hx.block w.heap.size (by simp;omega)).trans ((Below.heap_alloc _ _ _ (by simp;omega)).trans ((Below.heap_alloc _ _ _ (by simp)).trans (heap_at w (.cells #[.int .u64 0,.int .i64 a.op,.int .i64 a.at_,.int .u64 (U a.a),.int .u64 (U a.b),.func (.func g0) #[] caps0,.pointer none] 208) _ rfl)))
 have hb2:=(hx.block (w.heap.size+1) (by simp)).trans ((Below.heap_alloc _ _ _ (by simp)).trans (heap_at (w.alloc (.cells #[.int .u64 0,.int .i64 a.op,.int .i64 a.at_,.int .u64 (U a.a),.int .u64 (U a.b),.func (.func g0) #[] caps0,.pointer none] 208)) _ _ (by simp)))
 have hb3:=(hx.block (w.heap.size+1+1) (by simp)).trans (heap_at ((w.alloc (.cells #[.int .u64 0,.int .i64 a.op,.int .i64 a.at_,.int .u64 (U a.a),.int .u64 (U a.b),.func (.func g0) #[] caps0,.pointer none] 208)).alloc (.cells #[.func (.func g) #[] caps] 97)) _ _ (by simp))
 have hE:Ext w w1:=ext_trans (ext_alloc _ (ext_alloc _ (ext_alloc _ (ext_refl w)))) hx
 obtain ⟨d0,d1,d2,d3,d4,d5,d6,dz,dl⟩:=sev_of hb1
 have hX:=put8_ext (b:=w.heap.size+1+1) (.int .i64 0) (.int .u64 0) (.int .i64 a.op) (.int .i64 a.at_) (.int .u64 (U a.a)) (.int .u64 (U a.b)) (.func (.func 233) #[] #[.pointer (some ⟨w.heap.size,0,none⟩),.pointer (some ⟨w.heap.size+1,0,none⟩)]) (.pointer none) hE (by omega)
 have hB:=put8_block (.int .i64 0) (.int .u64 0) (.int .i64 a.op) (.int .i64 a.at_) (.int .u64 (U a.a)) (.int .u64 (U a.b)) (.func (.func 233) #[] #[.pointer (some ⟨w.heap.size,0,none⟩),.pointer (some ⟨w.heap.size+1,0,none⟩)]) (.pointer none) hb3
 have hA1:=(put8_other (w:=w1) (b:=w.heap.size+1+1) (k:=w.heap.size) (.int .i64 0) (.int .u64 0) (.int .i64 a.op) (.int .i64 a.at_) (.int .u64 (U a.a)) (.int .u64 (U a.b)) (.func (.func 233) #[] #[.pointer (some ⟨w.heap.size,0,none⟩),.pointer (some ⟨w.heap.size+1,0,none⟩)]) (.pointer none) (by omega)).trans hb1
 have hA2:=(put8_other (w:=w1) (b:=w.heap.size+1+1) (k:=w.heap.size+1) (.int .i64 0) (.int .u64 0) (.int .i64 a.op) (.int .i64 a.at_) (.int .u64 (U a.a)) (.int .u64 (U a.b)) (.func (.func 233) #[] #[.pointer (some ⟨w.heap.size,0,none⟩),.pointer (some ⟨w.heap.size+1,0,none⟩)]) (.pointer none) (by omega)).trans hb2
 obtain ⟨c0,c1,c2,c3,c4,c5,c6,c7,cz,ll⟩:=eit_of hb3
 rw [put8] at hX hB hA1 hA2
 have HX:=Lib.hid (And.intro hX (And.intro hB (And.intro hA1 hA2)))
 clear hX hB hA1 hA2 hb1 hb2 hb3 hE hx
 go_wp2
 clear c0 c1 c2 c3 c4 c5 c6 c7 cz ll
 obtain ⟨hX,hB,hA1,hA2⟩:=HX.out
 clear HX
 generalize (World.setCell _ (⟨w.heap.size+1+1,7,none⟩ : Addr) _) = Z at hX hB hA1 hA2 ⊢
 obtain ⟨c0,c1,c2,c3,c4,c5,c6,c7,cz,ll⟩:=eit_of hB
 exact bodyPost_ret (by simp only [results,Tryz.results182,go_sem];simp [go_sem,c0,c1,c2,c3,c4,c5,c6,c7]) rfl ⟨rfl,hX,hA1,hA2⟩
theorem then1UR {t:Tr (BitVec 64)} {t2:Tr (Rz)} (a:Acc) (g0:FuncId) (caps0:Array Value) (g:FuncId) (caps:Array Value) (F G:Nat → Prop) (x:BitVec 64) (B1 B2:Nat) (w:World) (he:Enters g0) (hF:Bnd F w) (hG:Bnd G w)
  (k1:w.heap[B1]? = some (.cells #[.int .u64 0,.int .i64 a.op,.int .i64 a.at_,.int .u64 (U a.a),.int .u64 (U a.b),.func (.func g0) #[] caps0,.pointer none] 208 (0,0))) (k2:w.heap[B2]? = some (.cells #[.func (.func g) #[] caps] 97 (0,0)))
  (hN:∀ W,Ext w W → Calls Tryz.prog g0 (#[.int .u64 (U x)] ++ caps0) W (RetP (PT kU t) F W))
  (hT:∀ v F1 W,Ext w W → PT kU t F1 v W → Bnd F1 W → Calls Tryz.prog 182 #[v,.func (.func g) #[] caps] W (RetP (PT kR t2) (fun j => F1 j ∨ G j) W)) :
  Calls Tryz.prog 233 #[.int .u64 (U x),.pointer (some ⟨B1,0,none⟩),.pointer (some ⟨B2,0,none⟩)] w (RetP (PT kR t2) (fun j => F j ∨ G j) w):=by
 have HN:=Lib.hid hN
 have HT:=Lib.hid hT
 unfold Enters at he
 have q1:=cell_at (o:=5) k1 rfl
 have q2:=cell_at (o:=0) k2 rfl
 have l1:=cell_lt q1
 have l2:=cell_lt q2
 clear hN hT k1 k2
 go_enter Tryz.func233,Tryz.ntmps233
 go_wp2
 have m1:=ext_cell (ext_alloc (.cells #[.int .i64 0,.int .u64 0,.int .i64 0,.int .i64 0,.int .u64 0,.int .u64 0,.nilFunc,.pointer none] 99) (ext_refl w)) q1
 have m2:=ext_cell (ext_alloc (.cells #[.int .i64 0,.int .u64 0,.int .i64 0,.int .i64 0,.int .u64 0,.int .u64 0,.nilFunc,.pointer none] 99) (ext_refl w)) q2
 have hE:Ext w (w.alloc (.cells #[.int .i64 0,.int .u64 0,.int .i64 0,.int .i64 0,.int .u64 0,.int .u64 0,.nilFunc,.pointer none] 99)):=ext_alloc _ (ext_refl w)
 have hb:=heap_at w (.cells #[.int .i64 0,.int .u64 0,.int .i64 0,.int .i64 0,.int .u64 0,.int .u64 0,.nilFunc,.pointer none] 99) w.heap.size rfl
 have hW:(w.alloc (.cells #[.int .i64 0,.int .u64 0,.int .i64 0,.int .i64 0,.int .u64 0,.int .u64 0,.nilFunc,.pointer none] 99)).heap.size = w.heap.size+1:=by simp
 generalize w.alloc (.cells #[.int .i64 0,.int .u64 0,.int .i64 0,.int .i64 0,.int .u64 0,.int .u64 0,.nilFunc,.pointer none] 99) = W at m1 m2 hE hb hW ⊢
 have n1:=cell_lt m1
 have n2:=cell_lt m2
 have HE:=Lib.hid hE
 have HB:=Lib.hid hb
 have HW:=Lib.hid hW
 clear hE hb hW
 refine wp_region_mix (fun w' => ∃ s,w' = over W s) [(0,[0,1,2,4]),(1,[3]),(1,[5]),(2,[6])] (by kernel_rfl) (by kernel_rfl) (over_of (ext_drew (ext_refl W))) ?_
 simp only [pieces,pickL,List.map_cons,List.map_nil,List.getD_cons_zero,List.getD_cons_succ]
 refine mix_reads ?_
 repeat (go_big_quiet_step (fail))
 refine wpQuiet_nil (mix_acts ?_)
 have HCX:=Lib.hid (HN.out W.drew (ext_drew HE.out))
 go_wp2_with (refine HCX.out.mono ?_;rintro e w1 ⟨v1,F1,rfl,hx1,hp1,hbn1,hsub1⟩;refine Hid.out ?_)
 refine Lib.hid ?_
 have HX1:=Lib.hid (ext_trans (ext_drew (ext_refl W)) hx1)
 have HT1:=Lib.hid (HT.out v1 F1 w1 (ext_trans HE.out HX1.out) hp1 hbn1)
 have HS1:=Lib.hid hsub1
 clear hx1 hp1 hbn1 hsub1 HCX HN HT
 go_wp2
 refine mixQ_mk (over_of HX1.out) (mix_acts ?_)
 go_wp2_with (go_at_call 182;refine HT1.out.mono ?_;rintro e w2 ⟨v2,F2,rfl,hx2,hp2,hbn2,hsub2⟩;refine Hid.out ?_)
 refine Lib.hid ?_
 have HX2:=Lib.hid (ext_trans HX1.out hx2)
 have hsub:∀ j,F2 j → (F j ∨ G j) ∨ w.heap.size+1 ≤ j:=fun j hj => by
  have h1:=HX1.out.size
  have h2:=HW.out
  rcases hsub2 j hj with (h | h) | h
  ·rcases HS1.out j h with h | h
   ·exact .inl (.inl h)
   ·have h3:W.drew.heap.size = W.heap.size:=rfl
    exact .inr (by omega)
  ·exact .inl (.inr h)
  ·exact .inr (by omega)
 have hnF:¬ F2 w.heap.size:=fun h => by
  rcases hsub _ h with (h | h) | h
  ·have:=hF _ h;omega
  ·have:=hG _ h;omega
  ·omega
 have hbx:=(HX2.out.block _ (heap_lt HB.out)).trans HB.out
 obtain ⟨y0,y1,a2,fn2,rfl,HFN,HX⟩:=tlR hp2 (ext_trans HE.out HX2.out) hbx hbn2 (fun j hj => (hsub j hj).imp_right fun h => (by omega:w.heap.size ≤ j)) hnF (Nat.le_refl _)
 have HBX:=Lib.hid hbx
 clear hx2 hp2 hbn2 hsub2 hsub hnF hbx HT1 HS1
 go_wp2
 refine mixQ_mk (over_of HX2.out) (mix_late ?_)
 obtain ⟨c0,c1,c2,c3,c4,c5,c6,c7,cz,ll⟩:=eit_of HBX.out
 clear HBX
 rcases HFN.out with rfl | ⟨g',caps',rfl⟩
 all_goals
  go_wp2
  refine lateQ_mk (fun _ => True) trivial (mix_end ?_)
  clear c0 c1 c2 c3 c4 c5 c6 c7 cz ll
  obtain ⟨hX,hB,hP⟩:=HX.out
  clear HX
  generalize (World.setCell _ (⟨w.heap.size,7,none⟩ : Addr) _) = Z at hX hB hP ⊢
  obtain ⟨c0,c1,c2,c3,c4,c5,c6,c7,cz,ll⟩:=eit_of hB
  go_wp2
  exact bodyPost_ret (by simp only [results,Tryz.results233,go_sem];simp [go_sem,c0,c1,c2,c3,c4,c5,c6,c7]) rfl ⟨_,F2,rfl,hX,hP⟩
theorem thenM_UR (F:Nat → Prop) (v:Value) (g:FuncId) (caps:Array Value) (w:World) (hP:PT kU .more F v w):Calls Tryz.prog 182 #[v,.func (.func g) #[] caps] w (RetP (PT kR .more) noF w):=by
 obtain ⟨a,g0,caps0,rfl,he⟩:=hP
 refine (thenAUR a g0 caps0 g caps w).mono ?_
 rintro e w' ⟨rfl,hx,h1,h2⟩
 exact ⟨_,noF,rfl,hx,⟨a,_,_,rfl,enters_of Tryz.func233 (by kernel_rfl) rfl⟩,fun _ h => h.elim,fun _ h => h.elim⟩
theorem then_UR:∀ (t:Tr (BitVec 64)) (f:BitVec 64 → Tr (Rz)) (F G:Nat → Prop) (v fn:Value) (w:World),PT kU t F v w → CT kU kR f G fn w → Bnd F w → Bnd G w →
  Calls Tryz.prog 182 #[v,fn] w (RetP (PT kR (t.bind f)) (fun j => F j ∨ G j) w)
 | .done r,f,F,G,v,fn,w,hP,hC,hF,hG => by
  cases hP
  exact (thenDUR r accZ f G fn w hC hG).mono fun e w' h => h.mono fun j hj => .inr hj
 | .more,f,F,G,v,fn,w,hP,hC,hF,hG => by
  obtain ⟨g,caps,rfl,hg,hc⟩:=hC
  exact (thenM_UR F v g caps w hP).mono fun e w' h => h.mono fun j hj => hj.elim
 | .ask a k,f,F,G,v,fn,w,hP,hC,hF,hG => by
  obtain ⟨g0,caps0,rfl,he,hk⟩:=hP
  obtain ⟨g,caps,rfl,hg,hc⟩:=id hC
  refine (thenAUR a g0 caps0 g caps w).mono ?_
  rintro e w' ⟨rfl,hx,h1,h2⟩
  have hs1:=heap_lt h1
  have hs2:=heap_lt h2
  refine ⟨_,fun j => (F j ∨ G j) ∨ j = w.heap.size ∨ j = w.heap.size+1,rfl,hx,⟨_,_,rfl,enters_of Tryz.func233 (by kernel_rfl) rfl,fun x u hu => ?_⟩,?_,?_⟩
  ·have hFu:Agr F w u:=(Agr.of_ext hx hF).trans (hu.sub fun j hj => .inl (.inl hj))
   have hGu:Agr G w u:=(Agr.of_ext hx hG).trans (hu.sub fun j hj => .inl (.inr hj))
   have hu1:=(hu w.heap.size (.inr (.inl rfl))).trans h1
   have hu2:=(hu (w.heap.size+1) (.inr (.inr rfl))).trans h2
   have lt_of:∀ j,j < w.heap.size → u.heap[j]? = w.heap[j]? → j < u.heap.size:=fun j hj e => by
    have h0:w.heap[j]? = some w.heap[j]:=Array.getElem?_eq_getElem hj
    exact heap_lt (e.trans h0)
   have bF:Bnd F u:=fun j hj => lt_of j (hF j hj) (hFu j hj)
   have bG:Bnd G u:=fun j hj => lt_of j (hG j hj) (hGu j hj)
   refine (then1UR a g0 caps0 g caps F G x w.heap.size (w.heap.size+1) u he bF bG hu1 hu2 (fun W hW => hk x W (hFu.trans (Agr.of_ext hW bF))) (fun v' F1 W hW hp hb => then_UR (k x) f F1 G v' _ W hp (hC.agr (hGu.trans (Agr.of_ext hW bG))) hb (bG.ext hW.size))).mono ?_
   exact fun e w'' h => h.mono fun j hj => .inl hj
  ·intro j hj
   rcases hj with (hj | hj) | rfl | rfl
   ·exact Nat.lt_of_lt_of_le (hF j hj) hx.size
   ·exact Nat.lt_of_lt_of_le (hG j hj) hx.size
   ·exact hs1
   ·exact hs2
  ·intro j hj
   rcases hj with hj | rfl | rfl
   ·exact .inl hj
   ·exact .inr (Nat.le_refl _)
   ·exact .inr (Nat.le_succ _)
end Go.Proofs.YthjklbonebnekaaGreat

