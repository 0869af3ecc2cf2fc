/-
  What the call of Of comes to. Conditions: those of each theorem.
-/
import Derived.Test.YthjklbonebnekaaGreatGap
import Derived.Test.YthjklbonebnekaaGreatGas
import Derived.Test.YthjklbonebnekaaGreatGat
set_option maxRecDepth 8000
set_option maxHeartbeats 4000000
namespace Go.Proofs.YthjklbonebnekaaGreat
open Go Go.RowKit
theorem of_split_yes (x:BitVec 64) (h:U x < 17179869184):SplitSpec stL x [getN 0 30 x,getN 30 2 x,getN 32 2 x] 0:=⟨fun hn => absurd stL_lay hn,fun _ hn => absurd ((st_out x).2 h) hn,fun _ _ => ⟨(st_split x).symm,rfl⟩⟩
theorem of_split_no (x:BitVec 64) (h:¬ U x < 17179869184):SplitSpec stL x [] 10:=⟨fun hn => absurd stL_lay hn,fun _ _ => ⟨rfl,rfl⟩,fun _ hz => absurd ((st_out x).1 hz) h⟩
theorem ofS_no (x:BitVec 64) (h:¬ isW x):ofS x = ⟨0,0,0⟩:=by unfold ofS;rw [if_neg h]
theorem ofS_yes (x:BitVec 64) (h:isW x):ofS x = stN x:=by unfold ofS;rw [if_pos h]
theorem stN_in (x:BitVec 64):0 ≤ (stN x).g ∧ (stN x).g ≤ 1073741823 ∧ 0 ≤ (stN x).m ∧ (stN x).m ≤ 3 ∧ 0 ≤ (stN x).k ∧ (stN x).k ≤ 3:=by
 unfold stN
 dsimp only
 omega
theorem of_cells {x:BitVec 64} {X:World} {v:Value} (h:Us X v [getN 0 30 x,getN 30 2 x,getN 32 2 x]):∃ b off cap,v = .slice (some ⟨b,off,none⟩) 3 cap ∧ b < X.heap.size ∧ X.cell? ⟨b,off,none⟩ = some (.int .u64 (stN x).g) ∧ X.cell? ⟨b,off+1,none⟩ = some (.int .u64 (stN x).m) ∧
  X.cell? ⟨b,off+2,none⟩ = some (.int .u64 (stN x).k):=by
 obtain ⟨a0,cap,rfl,hc,hr⟩:=h
 obtain ⟨b,off,rfl,hb,hcell⟩:=hr (Nat.succ_pos _)
 refine ⟨b,off,cap,rfl,hb,?_,?_,?_⟩
 ·have e:X.cell? ⟨b,off,none⟩ = some (.int .u64 (U (getN 0 30 x))):=hcell 0 (Nat.succ_pos _)
  rw [e,U_get0];rfl
 ·have e:X.cell? ⟨b,off+1,none⟩ = some (.int .u64 (U (getN 30 2 x))):=hcell 1 (by simp)
  rw [e,U_get1];rfl
 ·have e:X.cell? ⟨b,off+2,none⟩ = some (.int .u64 (U (getN 32 2 x))):=hcell 2 (by simp)
  rw [e,U_get2];rfl
theorem of_none (x:BitVec 64) (h:¬ U x < 17179869184) (w:World):Calls Tryz.prog 101 #[.int .u64 (U x)] w (Ret (.tuple #[stV ⟨0,0,0⟩,.bool false]) w):=by
 have HS:=Lib.hid (of_split_no x h)
 clear h
 go_enter Tryz.func101,Tryz.ntmps101
 go_wp2_with (first | (go_at_call 80;refine (slayout_any _).mono ?_;rintro e w' hr;obtain ⟨rfl,s0,rfl⟩:=hr.over;clear hr) | (go_at_call 173;refine Hid.out ?_))
 rename_i K2 hK2 K hK
 refine Lib.hid ?_
 refine (split_any stL _ x _ _ _ HS (by decide) (made_fs (Made.mk fC 169 (ext_refl _)))).mono ?_
 rintro e w' hr
 obtain ⟨sv,rfl,s2,rfl,HU⟩:=hr.over
 clear hr
 have HX:=Lib.hid (ext_over s2 (ext_alloc (.cells fC 169) (ext_over s0 (ext_alloc (.cells #[.int .i64 0,.int .i64 0,.int .i64 0] 56) (ext_refl w)))))
 have HR:Hid (Made w w.heap.size #[.int .i64 0,.int .i64 0,.int .i64 0] 56 (over ((over (w.alloc (.cells #[.int .i64 0,.int .i64 0,.int .i64 0] 56)) s0).alloc (.cells fC 169)) s2)):=Lib.hid ((((Made.mk #[.int .i64 0,.int .i64 0,.int .i64 0] 56 (ext_refl w)).over s0).alloc _).over s2)
 generalize over ((over (w.alloc (.cells #[.int .i64 0,.int .i64 0,.int .i64 0] 56)) s0).alloc (.cells fC 169)) s2 = X at HX HR HU ⊢
 generalize (over (w.alloc (.cells #[.int .i64 0,.int .i64 0,.int .i64 0] 56)) s0).heap.size = bf
 generalize hbR:w.heap.size = bR at HR ⊢
 have lR:=hp_lt HR.out.1
 have fR:∀ o,X.frozen? ⟨bR,o,none⟩ = false:=fun _ => free_at HR.out.1
 have r0:=cell_at (o:=0) HR.out.1 rfl
 have r1:=cell_at (o:=1) HR.out.1 rfl
 have r2:=cell_at (o:=2) HR.out.1 rfl
 clear HU
 go_wp2
 have HE9:=Lib.hid (ext_set (p:=⟨bR,2,none⟩) (.int .i64 0) HR.out.2 (ext_set (p:=⟨bR,1,none⟩) (.int .i64 0) HR.out.2 (ext_set (p:=⟨bR,0,none⟩) (.int .i64 0) HR.out.2 HX.out)))
 have HR9:Hid (Made w bR #[.int .i64 0,.int .i64 0,.int .i64 0] 56 (((X.setCell ⟨bR,0,none⟩ (.int .i64 0)).setCell ⟨bR,1,none⟩ (.int .i64 0)).setCell ⟨bR,2,none⟩ (.int .i64 0))):=Lib.hid (((HR.out.set 0 (.int .i64 0)).set 1 (.int .i64 0)).set 2 (.int .i64 0))
 generalize (((X.setCell ⟨bR,0,none⟩ (.int .i64 0)).setCell ⟨bR,1,none⟩ (.int .i64 0)).setCell ⟨bR,2,none⟩ (.int .i64 0)) = Z9 at HE9 HR9 ⊢
 have z0:=cell_at (o:=0) HR9.out.1 rfl
 have z1:=cell_at (o:=1) HR9.out.1 rfl
 have z2:=cell_at (o:=2) HR9.out.1 rfl
 simp only [List.getElem_toArray,List.getElem_cons_zero,List.getElem_cons_succ] at z0 z1 z2
 exact bodyPost_ret (v:=.tuple #[stV ⟨0,0,0⟩,.bool false]) (by simp [results,Tryz.results101,go_sem,z0,z1,z2]) rfl (Ret.mk HE9.out)
theorem of_yes (x:BitVec 64) (s:St) (hs:Hid (s = stN x)) (h:U x < 17179869184) (HO:Hid s.ok) (w:World):Calls Tryz.prog 101 #[.int .u64 (U x)] w (Ret (.tuple #[stV s,.bool true]) w):=by
 have HS:=Lib.hid (of_split_yes x h)
 clear h
 go_enter Tryz.func101,Tryz.ntmps101
 go_wp2_with (first | (go_at_call 80;refine (slayout_any _).mono ?_;rintro e w' hr;obtain ⟨rfl,s0,rfl⟩:=hr.over;clear hr) | (go_at_call 173;refine Hid.out ?_))
 rename_i K2 hK2 K hK
 refine Lib.hid ?_
 refine (split_any stL _ x _ _ _ HS (by decide) (made_fs (Made.mk fC 169 (ext_refl _)))).mono ?_
 rintro e w' hr
 obtain ⟨sv,rfl,s2,rfl,HU⟩:=hr.over
 clear hr
 have HX:=Lib.hid (ext_over s2 (ext_alloc (.cells fC 169) (ext_over s0 (ext_alloc (.cells #[.int .i64 0,.int .i64 0,.int .i64 0] 56) (ext_refl w)))))
 have HR:Hid (Made w w.heap.size #[.int .i64 0,.int .i64 0,.int .i64 0] 56 (over ((over (w.alloc (.cells #[.int .i64 0,.int .i64 0,.int .i64 0] 56)) s0).alloc (.cells fC 169)) s2)):=Lib.hid ((((Made.mk #[.int .i64 0,.int .i64 0,.int .i64 0] 56 (ext_refl w)).over s0).alloc _).over s2)
 generalize over ((over (w.alloc (.cells #[.int .i64 0,.int .i64 0,.int .i64 0] 56)) s0).alloc (.cells fC 169)) s2 = X at HX HR HU ⊢
 generalize (over (w.alloc (.cells #[.int .i64 0,.int .i64 0,.int .i64 0] 56)) s0).heap.size = bf
 generalize hbR:w.heap.size = bR at HR ⊢
 have lR:=hp_lt HR.out.1
 have fR:∀ o,X.frozen? ⟨bR,o,none⟩ = false:=fun _ => free_at HR.out.1
 have r0:=cell_at (o:=0) HR.out.1 rfl
 have r1:=cell_at (o:=1) HR.out.1 rfl
 have r2:=cell_at (o:=2) HR.out.1 rfl
 obtain ⟨b,off,cap,rfl,hb,c0,c1,c2⟩:=of_cells HU.out
 clear HU
 obtain ⟨b1,b2,b3,b4,b5,b6⟩:=stN_in x
 rw [← hs.out] at c0 c1 c2 b1 b2 b3 b4 b5 b6
 clear hs
 go_wp2
 refine wp_region_mix (fun y => ∃ s,y = over X s) [(0,[0,1,2,3,4,5,6,7,8,9,10,11,12]),(1,[13]),(1,[14])] (by kernel_rfl) (by kernel_rfl) (over_of (ext_drew (ext_refl X))) ?_
 simp only [pieces,pickL,List.map_cons,List.map_nil,List.getD_cons_zero,List.getD_cons_succ]
 refine mix_reads ?_
 repeat (go_big_quiet_step (fail))
 refine wpQuiet_nil (mix_acts ?_)
 go_wp2
 have HX1:=Lib.hid (ext_drew (ext_alloc (.cells #[.int .i64 0,.int .i64 0,.int .i64 0] 56) (ext_refl X)))
 have HQ:Hid (Made X X.heap.size #[.int .i64 0,.int .i64 0,.int .i64 0] 56 (X.alloc (.cells #[.int .i64 0,.int .i64 0,.int .i64 0] 56)).drew):=Lib.hid ⟨hp_at _ _ _ rfl,Nat.le_refl _⟩
 refine mixQ_mk (over_of HX1.out) (mix_acts ?_)
 generalize (X.alloc (.cells #[.int .i64 0,.int .i64 0,.int .i64 0] 56)).drew = X1 at HX1 HQ ⊢
 generalize hbq:X.heap.size = bq at HQ ⊢
 have fq:∀ o,X1.frozen? ⟨bq,o,none⟩ = false:=fun _ => free_at HQ.out.1
 have q0:=cell_at (o:=0) HQ.out.1 rfl
 have q1:=cell_at (o:=1) HQ.out.1 rfl
 have q2:=cell_at (o:=2) HQ.out.1 rfl
 go_wp2
 have HX2:=Lib.hid (ext_set (p:=⟨bq,2,none⟩) (.int .i64 s.k) HQ.out.2 (ext_set (p:=⟨bq,1,none⟩) (.int .i64 s.m) HQ.out.2 (ext_set (p:=⟨bq,0,none⟩) (.int .i64 s.g) HQ.out.2 HX1.out)))
 have HQ2:Hid (Made X bq #[.int .i64 s.g,.int .i64 s.m,.int .i64 s.k] 56 (((X1.setCell ⟨bq,0,none⟩ (.int .i64 s.g)).setCell ⟨bq,1,none⟩ (.int .i64 s.m)).setCell ⟨bq,2,none⟩ (.int .i64 s.k))):=Lib.hid (((HQ.out.set 0 (.int .i64 s.g)).set 1 (.int .i64 s.m)).set 2 (.int .i64 s.k))
 refine mixQ_mk (over_of HX2.out) (mix_end ?_)
 generalize (((X1.setCell ⟨bq,0,none⟩ (.int .i64 s.g)).setCell ⟨bq,1,none⟩ (.int .i64 s.m)).setCell ⟨bq,2,none⟩ (.int .i64 s.k)) = X2 at HX2 HQ2 ⊢
 clear HX1 HQ fq q0 q1 q2 r0 r1 r2 fR c0 c1 c2
 have q0:=cell_at (o:=0) HQ2.out.1 rfl
 have q1:=cell_at (o:=1) HQ2.out.1 rfl
 have q2:=cell_at (o:=2) HQ2.out.1 rfl
 simp only [List.getElem_toArray,List.getElem_cons_zero,List.getElem_cons_succ] at q0 q1 q2
 have lq:=hp_lt HQ2.out.1
 have HR2:=Lib.hid (HR.out.ext HX2.out)
 have HXX:=Lib.hid (ext_trans HX.out HX2.out)
 have fR:∀ o,X2.frozen? ⟨bR,o,none⟩ = false:=fun _ => free_at HR2.out.1
 have r0:=cell_at (o:=0) HR2.out.1 rfl
 have r1:=cell_at (o:=1) HR2.out.1 rfl
 have r2:=cell_at (o:=2) HR2.out.1 rfl
 have lR2:=hp_lt HR2.out.1
 have nq:bq ≠ bR:=(by subst hbq;exact Nat.ne_of_gt lR)
 have nq2:=Ne.symm nq
 go_wp2_with (go_at_call 63;refine (sformed_yes s HO.out _).mono ?_;rintro e w' hr;obtain ⟨rfl,s3,rfl⟩:=hr.over;clear hr)
 have HE9:=Lib.hid (ext_set (p:=⟨bR,2,none⟩) (.int .i64 s.k) HR.out.2 (ext_set (p:=⟨bR,1,none⟩) (.int .i64 s.m) HR.out.2 (ext_set (p:=⟨bR,0,none⟩) (.int .i64 s.g) HR.out.2 (ext_over s3 HXX.out))))
 have HR9:Hid (Made w bR #[.int .i64 s.g,.int .i64 s.m,.int .i64 s.k] 56 ((((over X2 s3).setCell ⟨bR,0,none⟩ (.int .i64 s.g)).setCell ⟨bR,1,none⟩ (.int .i64 s.m)).setCell ⟨bR,2,none⟩ (.int .i64 s.k))):=Lib.hid ((((HR2.out.over s3).set 0 (.int .i64 s.g)).set 1 (.int .i64 s.m)).set 2 (.int .i64 s.k))
 generalize ((((over X2 s3).setCell ⟨bR,0,none⟩ (.int .i64 s.g)).setCell ⟨bR,1,none⟩ (.int .i64 s.m)).setCell ⟨bR,2,none⟩ (.int .i64 s.k)) = Z9 at HE9 HR9 ⊢
 have z0:=cell_at (o:=0) HR9.out.1 rfl
 have z1:=cell_at (o:=1) HR9.out.1 rfl
 have z2:=cell_at (o:=2) HR9.out.1 rfl
 simp only [List.getElem_toArray,List.getElem_cons_zero,List.getElem_cons_succ] at z0 z1 z2
 exact bodyPost_ret (v:=.tuple #[stV s,.bool true]) (by simp [results,Tryz.results101,go_sem,z0,z1,z2]) rfl (Ret.mk HE9.out)
theorem of_odd (x:BitVec 64) (s:St) (hs:Hid (s = stN x)) (h:U x < 17179869184) (HO:Hid (¬ s.ok)) (w:World):Calls Tryz.prog 101 #[.int .u64 (U x)] w (Ret (.tuple #[stV ⟨0,0,0⟩,.bool false]) w):=by
 have HS:=Lib.hid (of_split_yes x h)
 clear h
 go_enter Tryz.func101,Tryz.ntmps101
 go_wp2_with (first | (go_at_call 80;refine (slayout_any _).mono ?_;rintro e w' hr;obtain ⟨rfl,s0,rfl⟩:=hr.over;clear hr) | (go_at_call 173;refine Hid.out ?_))
 rename_i K2 hK2 K hK
 refine Lib.hid ?_
 refine (split_any stL _ x _ _ _ HS (by decide) (made_fs (Made.mk fC 169 (ext_refl _)))).mono ?_
 rintro e w' hr
 obtain ⟨sv,rfl,s2,rfl,HU⟩:=hr.over
 clear hr
 have HX:=Lib.hid (ext_over s2 (ext_alloc (.cells fC 169) (ext_over s0 (ext_alloc (.cells #[.int .i64 0,.int .i64 0,.int .i64 0] 56) (ext_refl w)))))
 have HR:Hid (Made w w.heap.size #[.int .i64 0,.int .i64 0,.int .i64 0] 56 (over ((over (w.alloc (.cells #[.int .i64 0,.int .i64 0,.int .i64 0] 56)) s0).alloc (.cells fC 169)) s2)):=Lib.hid ((((Made.mk #[.int .i64 0,.int .i64 0,.int .i64 0] 56 (ext_refl w)).over s0).alloc _).over s2)
 generalize over ((over (w.alloc (.cells #[.int .i64 0,.int .i64 0,.int .i64 0] 56)) s0).alloc (.cells fC 169)) s2 = X at HX HR HU ⊢
 generalize (over (w.alloc (.cells #[.int .i64 0,.int .i64 0,.int .i64 0] 56)) s0).heap.size = bf
 generalize hbR:w.heap.size = bR at HR ⊢
 have lR:=hp_lt HR.out.1
 have fR:∀ o,X.frozen? ⟨bR,o,none⟩ = false:=fun _ => free_at HR.out.1
 have r0:=cell_at (o:=0) HR.out.1 rfl
 have r1:=cell_at (o:=1) HR.out.1 rfl
 have r2:=cell_at (o:=2) HR.out.1 rfl
 obtain ⟨b,off,cap,rfl,hb,c0,c1,c2⟩:=of_cells HU.out
 clear HU
 obtain ⟨b1,b2,b3,b4,b5,b6⟩:=stN_in x
 rw [← hs.out] at c0 c1 c2 b1 b2 b3 b4 b5 b6
 clear hs
 go_wp2
 refine wp_region_mix (fun y => ∃ s,y = over X s) [(0,[0,1,2,3,4,5,6,7,8,9,10,11,12]),(1,[13]),(1,[14])] (by kernel_rfl) (by kernel_rfl) (over_of (ext_drew (ext_refl X))) ?_
 simp only [pieces,pickL,List.map_cons,List.map_nil,List.getD_cons_zero,List.getD_cons_succ]
 refine mix_reads ?_
 repeat (go_big_quiet_step (fail))
 refine wpQuiet_nil (mix_acts ?_)
 go_wp2
 have HX1:=Lib.hid (ext_drew (ext_alloc (.cells #[.int .i64 0,.int .i64 0,.int .i64 0] 56) (ext_refl X)))
 have HQ:Hid (Made X X.heap.size #[.int .i64 0,.int .i64 0,.int .i64 0] 56 (X.alloc (.cells #[.int .i64 0,.int .i64 0,.int .i64 0] 56)).drew):=Lib.hid ⟨hp_at _ _ _ rfl,Nat.le_refl _⟩
 refine mixQ_mk (over_of HX1.out) (mix_acts ?_)
 generalize (X.alloc (.cells #[.int .i64 0,.int .i64 0,.int .i64 0] 56)).drew = X1 at HX1 HQ ⊢
 generalize hbq:X.heap.size = bq at HQ ⊢
 have fq:∀ o,X1.frozen? ⟨bq,o,none⟩ = false:=fun _ => free_at HQ.out.1
 have q0:=cell_at (o:=0) HQ.out.1 rfl
 have q1:=cell_at (o:=1) HQ.out.1 rfl
 have q2:=cell_at (o:=2) HQ.out.1 rfl
 go_wp2
 have HX2:=Lib.hid (ext_set (p:=⟨bq,2,none⟩) (.int .i64 s.k) HQ.out.2 (ext_set (p:=⟨bq,1,none⟩) (.int .i64 s.m) HQ.out.2 (ext_set (p:=⟨bq,0,none⟩) (.int .i64 s.g) HQ.out.2 HX1.out)))
 have HQ2:Hid (Made X bq #[.int .i64 s.g,.int .i64 s.m,.int .i64 s.k] 56 (((X1.setCell ⟨bq,0,none⟩ (.int .i64 s.g)).setCell ⟨bq,1,none⟩ (.int .i64 s.m)).setCell ⟨bq,2,none⟩ (.int .i64 s.k))):=Lib.hid (((HQ.out.set 0 (.int .i64 s.g)).set 1 (.int .i64 s.m)).set 2 (.int .i64 s.k))
 refine mixQ_mk (over_of HX2.out) (mix_end ?_)
 generalize (((X1.setCell ⟨bq,0,none⟩ (.int .i64 s.g)).setCell ⟨bq,1,none⟩ (.int .i64 s.m)).setCell ⟨bq,2,none⟩ (.int .i64 s.k)) = X2 at HX2 HQ2 ⊢
 clear HX1 HQ fq q0 q1 q2 r0 r1 r2 fR c0 c1 c2
 have q0:=cell_at (o:=0) HQ2.out.1 rfl
 have q1:=cell_at (o:=1) HQ2.out.1 rfl
 have q2:=cell_at (o:=2) HQ2.out.1 rfl
 simp only [List.getElem_toArray,List.getElem_cons_zero,List.getElem_cons_succ] at q0 q1 q2
 have lq:=hp_lt HQ2.out.1
 have HR2:=Lib.hid (HR.out.ext HX2.out)
 have HXX:=Lib.hid (ext_trans HX.out HX2.out)
 have fR:∀ o,X2.frozen? ⟨bR,o,none⟩ = false:=fun _ => free_at HR2.out.1
 have r0:=cell_at (o:=0) HR2.out.1 rfl
 have r1:=cell_at (o:=1) HR2.out.1 rfl
 have r2:=cell_at (o:=2) HR2.out.1 rfl
 have lR2:=hp_lt HR2.out.1
 have nq:bq ≠ bR:=(by subst hbq;exact Nat.ne_of_gt lR)
 have nq2:=Ne.symm nq
 go_wp2_with (go_at_call 63;refine (sformed_no s HO.out _).mono ?_;rintro e w' hr;obtain ⟨rfl,s3,rfl⟩:=hr.over;clear hr)
 have HE9:=Lib.hid (ext_set (p:=⟨bR,2,none⟩) (.int .i64 0) HR.out.2 (ext_set (p:=⟨bR,1,none⟩) (.int .i64 0) HR.out.2 (ext_set (p:=⟨bR,0,none⟩) (.int .i64 0) HR.out.2 (ext_over s3 HXX.out))))
 have HR9:Hid (Made w bR #[.int .i64 0,.int .i64 0,.int .i64 0] 56 ((((over X2 s3).setCell ⟨bR,0,none⟩ (.int .i64 0)).setCell ⟨bR,1,none⟩ (.int .i64 0)).setCell ⟨bR,2,none⟩ (.int .i64 0))):=Lib.hid ((((HR2.out.over s3).set 0 (.int .i64 0)).set 1 (.int .i64 0)).set 2 (.int .i64 0))
 generalize ((((over X2 s3).setCell ⟨bR,0,none⟩ (.int .i64 0)).setCell ⟨bR,1,none⟩ (.int .i64 0)).setCell ⟨bR,2,none⟩ (.int .i64 0)) = Z9 at HE9 HR9 ⊢
 have z0:=cell_at (o:=0) HR9.out.1 rfl
 have z1:=cell_at (o:=1) HR9.out.1 rfl
 have z2:=cell_at (o:=2) HR9.out.1 rfl
 simp only [List.getElem_toArray,List.getElem_cons_zero,List.getElem_cons_succ] at z0 z1 z2
 exact bodyPost_ret (v:=.tuple #[stV ⟨0,0,0⟩,.bool false]) (by simp [results,Tryz.results101,go_sem,z0,z1,z2]) rfl (Ret.mk HE9.out)
theorem of_any (x:BitVec 64) (w:World):Calls Tryz.prog 101 #[.int .u64 (U x)] w (Ret (.tuple #[stV (ofS x),.bool (decide (isW x))]) w):=by
 by_cases h:isW x
 ·rw [ofS_yes x h,decide_eq_true h]
  exact of_yes x _ (Lib.hid rfl) h.1 (Lib.hid h.2) w
 ·rw [ofS_no x h,decide_eq_false h]
  by_cases c:U x < 17179869184
  ·exact of_odd x _ (Lib.hid rfl) c (Lib.hid fun k => h ⟨c,k⟩) w
  ·exact of_none x c w
def putS (b:Nat) (y0 y1 y2:Value) (w:World):World:=((w.setCell ⟨b,0,none⟩ y0).setCell ⟨b,1,none⟩ y1).setCell ⟨b,2,none⟩ y2
theorem putS_block {w:World} {b:Nat} {x0 x1 x2:Value} {t:TypeId} (y0 y1 y2:Value) (h:w.heap[b]? = some (.cells #[x0,x1,x2] t (0,0))):(putS b y0 y1 y2 w).heap[b]? = some (.cells #[y0,y1,y2] t (0,0)):=by
 unfold putS
 have h1:=set_same (o:=0) y0 h
 have h2:=set_same (o:=1) y1 h1
 have h3:=set_same (o:=2) y2 h2
 rw [h3]
 rfl
theorem putS_other {w:World} {b k:Nat} (y0 y1 y2:Value) (h:k ≠ b):(putS b y0 y1 y2 w).heap[k]? = w.heap[k]?:=by
 unfold putS
 rw [set_other _ h,set_other _ h,set_other _ h]
theorem putS_ext {u w:World} {b:Nat} (y0 y1 y2:Value) (h:Ext u w) (hb:u.heap.size ≤ b):Ext u (putS b y0 y1 y2 w):=ext_set y2 hb (ext_set y1 hb (ext_set y0 hb h))
theorem frd2_PT (p:Pl) (n:Int) (s:St) (N:Nat) (B1 B2 B3:Nat) (w:World)  (k1:w.heap[B1]? = some (.cells #[.int .i64 s.g,.int .i64 s.m,.int .i64 s.k] 56 (0,0))) (k2:PBox B2 p w) (k3:w.heap[B3]? = some (.cells #[.int .i64 n] 3 (0,0))) :
  Calls Tryz.prog 274 #[.agg #[],.pointer (some ⟨B1,0,none⟩),.pointer (some ⟨B2,0,none⟩),.pointer (some ⟨B3,0,none⟩)] w (RetP (PT kI (frd2T p n s N)) noF w):=by
 by_cases hm:s.m = 3
 ·have eT:frd2T p n s N = .done (-1):=by unfold frd2T;rw [if_pos hm]
  rw [eT]
  clear eT
  have z1:=cell_at (o:=1) k1 rfl
  have z2:=cell_at (o:=2) k1 rfl
  have qk1:=heap_lt k1
  have d1_0:=cell_at (o:=0) k1 rfl
  have e1:=cell_lt d1_0
  have qk2:=heap_lt k2
  have ⟨c0,c1,c2,c3,c4,c5,lt⟩:=PBox.plc k2
  have qk3:=heap_lt k3
  have d3_0:=cell_at (o:=0) k3 rfl
  have e3:=cell_lt d3_0
  replace k1:=Lib.hid k1
  replace k2:=Lib.hid k2
  replace k3:=Lib.hid k3
  go_enter Tryz.func274,Tryz.ntmps274
  go_wp2_with (go_at_call 141;refine Hid.out ?_)
  refine Lib.hid ?_
  have ⟨hE,hb0,hb1,hW⟩:=al2 w (.cells #[] 132) (.cells #[.int .i64 0,.int .i64 0,.int .i64 0,.int .u64 0,.int .u64 0,.nilFunc,.pointer none] 62)
  generalize ((w.alloc (.cells #[] 132)).alloc (.cells #[.int .i64 0,.int .i64 0,.int .i64 0,.int .u64 0,.int .u64 0,.nilFunc,.pointer none] 62)) = W at hE hb0 hb1 hW ⊢
  replace k1:=(hE.block _ (heap_lt k1.out)).trans k1.out
  replace k2:=(hE.block _ (heap_lt k2.out)).trans k2.out
  replace k3:=(hE.block _ (heap_lt k3.out)).trans k3.out
  clear hW
  clear d1_0 e1 c0 c1 c2 c3 c4 c5 lt d3_0 e3
  refine (doneI_PT (-1) W).mono ?_
  rintro e w' hR
  obtain ⟨v',F',rfl,hX,hp,hbn,hsub,hnF,hbq⟩:=hR.tail (G:=noF) (w.heap.size+1) hE (heap_lt hb1) (fun h => h) (fun _ h => h.elim)
  have hbx:=hbq.trans hb1
  clear hbq hR
  clear hE hb0 hb1 k1 k2 k3 z1 z2
  obtain ⟨y,a2,fn2,rfl,HFN,HX⟩:=tlI hp hX hbx hbn hsub hnF (by omega)
  obtain ⟨c0,c1,c2,c3,c4,c5,c6,cz,ll⟩:=sev_of hbx
  clear hX hbx hp hbn hsub hnF
  rcases HFN.out with rfl | ⟨g',caps',rfl⟩
  all_goals
   go_wp2
   clear c0 c1 c2 c3 c4 c5 c6 cz ll
   obtain ⟨hX,hB,hP⟩:=HX.out
   clear HX
   generalize (World.setCell _ (⟨w.heap.size+1,6,none⟩ : Addr) _) = Z at hX hB hP ⊢
   obtain ⟨c0,c1,c2,c3,c4,c5,c6,cz,ll⟩:=sev_of hB
   exact bodyPost_ret (by simp only [results,Tryz.results274,go_sem];simp [go_sem,c0,c1,c2,c3,c4,c5,c6]) rfl ⟨_,F',rfl,hX,hP⟩
 ·have eT:frd2T p n s N = pushT p n N:=by unfold frd2T;rw [if_neg hm]
  rw [eT]
  clear eT
  have z1:=cell_at (o:=1) k1 rfl
  have z2:=cell_at (o:=2) k1 rfl
  have qk1:=heap_lt k1
  have d1_0:=cell_at (o:=0) k1 rfl
  have e1:=cell_lt d1_0
  have qk2:=heap_lt k2
  have ⟨c0,c1,c2,c3,c4,c5,lt⟩:=PBox.plc k2
  have qk3:=heap_lt k3
  have d3_0:=cell_at (o:=0) k3 rfl
  have e3:=cell_lt d3_0
  replace k1:=Lib.hid k1
  replace k2:=Lib.hid k2
  replace k3:=Lib.hid k3
  go_enter Tryz.func274,Tryz.ntmps274
  go_wp2_with (go_at_call 275;refine Hid.out ?_)
  refine Lib.hid ?_
  have ⟨hE,hb0,hb1,hW⟩:=al2 w (.cells #[] 132) (.cells #[.int .i64 0,.int .i64 0,.int .i64 0,.int .u64 0,.int .u64 0,.nilFunc,.pointer none] 62)
  generalize ((w.alloc (.cells #[] 132)).alloc (.cells #[.int .i64 0,.int .i64 0,.int .i64 0,.int .u64 0,.int .u64 0,.nilFunc,.pointer none] 62)) = W at hE hb0 hb1 hW ⊢
  replace k1:=(hE.block _ (heap_lt k1.out)).trans k1.out
  replace k2:=(hE.block _ (heap_lt k2.out)).trans k2.out
  replace k3:=(hE.block _ (heap_lt k3.out)).trans k3.out
  clear hW
  clear d1_0 e1 c0 c1 c2 c3 c4 c5 lt d3_0 e3
  refine (push_PT p n N W).mono ?_
  rintro e w' hR
  obtain ⟨v',F',rfl,hX,hp,hbn,hsub,hnF,hbq⟩:=hR.tail (G:=noF) (w.heap.size+1) hE (heap_lt hb1) (fun h => h) (fun _ h => h.elim)
  have hbx:=hbq.trans hb1
  clear hbq hR
  clear hE hb0 hb1 k1 k2 k3 z1 z2
  obtain ⟨y,a2,fn2,rfl,HFN,HX⟩:=tlI hp hX hbx hbn hsub hnF (by omega)
  obtain ⟨c0,c1,c2,c3,c4,c5,c6,cz,ll⟩:=sev_of hbx
  clear hX hbx hp hbn hsub hnF
  rcases HFN.out with rfl | ⟨g',caps',rfl⟩
  all_goals
   go_wp2
   clear c0 c1 c2 c3 c4 c5 c6 cz ll
   obtain ⟨hX,hB,hP⟩:=HX.out
   clear HX
   generalize (World.setCell _ (⟨w.heap.size+1,6,none⟩ : Addr) _) = Z at hX hB hP ⊢
   obtain ⟨c0,c1,c2,c3,c4,c5,c6,cz,ll⟩:=sev_of hB
   exact bodyPost_ret (by simp only [results,Tryz.results274,go_sem];simp [go_sem,c0,c1,c2,c3,c4,c5,c6]) rfl ⟨_,F',rfl,hX,hP⟩
theorem frd2_CT (p:Pl) (n:Int) (s:St) (N:Nat) (B1 B2 B3:Nat) (w:World)  (k1:w.heap[B1]? = some (.cells #[.int .i64 s.g,.int .i64 s.m,.int .i64 s.k] 56 (0,0))) (k2:PBox B2 p w) (k3:w.heap[B3]? = some (.cells #[.int .i64 n] 3 (0,0))) :
  CT kN kI (fun _ => frd2T p n s N) (fun j => j = B1 ∨ j = B2 ∨ j = B3) (.func (.func 274) #[] #[.pointer (some ⟨B1,0,none⟩),.pointer (some ⟨B2,0,none⟩),.pointer (some ⟨B3,0,none⟩)]) w:=
 ⟨_,_,rfl,enters_of Tryz.func274 (by kernel_rfl) rfl,fun _ w' ha => (frd2_PT p n s N  B1 B2 B3 w'  ((ha B1 (.inl rfl)).trans k1) ((ha B2 (.inr (.inl rfl))).trans k2) ((ha B3 (.inr (.inr rfl))).trans k3)).mono fun _ _ h => h.mono fun _ h => h.elim⟩
theorem frd_PT (p:Pl) (n:Int) (N:Nat) (x:BitVec 64) (w:World)   :
  Calls Tryz.prog 266 #[plV p,.int .i64 n,.int .u64 (U x)] w (RetP (PT kI (frdT p n N x)) noF w):=by
 obtain ⟨s0,hs0⟩ : ∃ s0,ofS x = s0:=⟨_,rfl⟩
 obtain ⟨s1,hs1⟩ : ∃ s1,s0.freed p.g = s1:=⟨_,rfl⟩
 have eT:frdT p n N x = (setT (p.stF n) s1.word).bind fun _ => frd2T p n s1 N:=by unfold frdT;rw [hs0,hs1]
 rw [eT]
 clear eT
 obtain ⟨g0,m0,j0⟩:=s0
 obtain ⟨g1,m1,j1⟩:=s1
 have hO:∀ W,Calls Tryz.prog 101 #[.int .u64 (U x)] W (Ret (.tuple #[.agg #[.int .i64 g0,.int .i64 m0,.int .i64 j0],.bool (decide (isW x))]) W):=fun W => by
  have:=of_any x W
  rw [hs0] at this
  exact this
 have hF:∀ W,Calls Tryz.prog 273 #[.agg #[.int .i64 g0,.int .i64 m0,.int .i64 j0],.int .i64 p.g] W (Ret (.agg #[.int .i64 g1,.int .i64 m1,.int .i64 j1]) W):=fun W => by
  have:=freed_any ⟨g0,m0,j0⟩ p.g W
  rw [hs1] at this
  exact this
 have hD:∀ W,Calls Tryz.prog 22 #[.agg #[.int .i64 g1,.int .i64 m1,.int .i64 j1]] W (Ret (.int .u64 (U (St.word ⟨g1,m1,j1⟩))) W):=fun W => word_any ⟨g1,m1,j1⟩ W
 clear hs0 hs1
 replace hO:=Lib.hid hO
 replace hF:=Lib.hid hF
 replace hD:=Lib.hid hD
 go_enter Tryz.func266,Tryz.ntmps266
 go_wp2_with (go_at_call 101;refine Hid.out ?_)
 refine Lib.hid ?_
 have ⟨hE,hb0,hb1,hb2,hW⟩:=al3 w (.cells #[.int .i64 p.n,.int .i64 p.t,.int .i64 p.r,.int .i64 p.d,.int .i64 p.b,.int .i64 p.g] 23) (.cells #[.int .i64 n] 3) (.cells #[.int .i64 0,.int .i64 0,.int .i64 0,.int .u64 0,.int .u64 0,.nilFunc,.pointer none] 62)
 generalize (((w.alloc (.cells #[.int .i64 p.n,.int .i64 p.t,.int .i64 p.r,.int .i64 p.d,.int .i64 p.b,.int .i64 p.g] 23)).alloc (.cells #[.int .i64 n] 3)).alloc (.cells #[.int .i64 0,.int .i64 0,.int .i64 0,.int .u64 0,.int .u64 0,.nilFunc,.pointer none] 62)) = W at hE hb0 hb1 hb2 hW ⊢
 clear hW
 refine (hO.out W).mono ?_
 rintro e wa ⟨rfl,hx⟩
 replace hE:=ext_trans hE hx
 replace hb0:=(hx.block _ (heap_lt hb0)).trans hb0
 replace hb1:=(hx.block _ (heap_lt hb1)).trans hb1
 replace hb2:=(hx.block _ (heap_lt hb2)).trans hb2
 clear hx
 have ⟨c0,c1,c2,c3,c4,c5,lt⟩:=PBox.plc hb0
 replace hE:=Lib.hid hE
 replace hb0:=Lib.hid hb0
 replace hb1:=Lib.hid hb1
 replace hb2:=Lib.hid hb2
 go_wp2_with (go_at_call 273;refine Hid.out ?_)
 refine Lib.hid ?_
 replace hE:=hE.out
 replace hb0:=hb0.out
 replace hb1:=hb1.out
 replace hb2:=hb2.out
 clear c0 c1 c2 c3 c4 c5 lt
 have hx:Ext wa (wa.alloc (.cells #[.int .i64 g0,.int .i64 m0,.int .i64 j0] 56)):=ext_alloc _ (ext_refl wa)
 have hb3:(wa.alloc (.cells #[.int .i64 g0,.int .i64 m0,.int .i64 j0] 56)).heap[wa.heap.size]? = some (.cells #[.int .i64 g0,.int .i64 m0,.int .i64 j0] 56):=heap_at _ _ _ rfl
 have hszhb3:=hE.size
 have hrbhb3:=heap_lt hb2
 generalize wa.alloc (.cells #[.int .i64 g0,.int .i64 m0,.int .i64 j0] 56) = waA at hx hb3 ⊢
 replace hE:=ext_trans hE hx
 replace hb0:=(hx.block _ (heap_lt hb0)).trans hb0
 replace hb1:=(hx.block _ (heap_lt hb1)).trans hb1
 replace hb2:=(hx.block _ (heap_lt hb2)).trans hb2
 clear hx
 refine (hF.out waA).mono ?_
 rintro e wb ⟨rfl,hx⟩
 replace hE:=ext_trans hE hx
 replace hb0:=(hx.block _ (heap_lt hb0)).trans hb0
 replace hb1:=(hx.block _ (heap_lt hb1)).trans hb1
 replace hb2:=(hx.block _ (heap_lt hb2)).trans hb2
 replace hb3:=(hx.block _ (heap_lt hb3)).trans hb3
 clear hx
 have z0:=cell_at (o:=0) hb3 rfl
 have z1:=cell_at (o:=1) hb3 rfl
 have z2:=cell_at (o:=2) hb3 rfl
 have zz:∀ o,wb.frozen? ⟨wa.heap.size,o,none⟩ = false:=fun _ => free_at hb3
 have zl:=heap_lt hb3
 have hX:=putS_ext (b:=wa.heap.size) (.int .i64 g1) (.int .i64 m1) (.int .i64 j1) hE (by omega)
 have hB:=putS_block (.int .i64 g1) (.int .i64 m1) (.int .i64 j1) hb3
 have hq0:=(putS_other (w:=wb) (b:=wa.heap.size) (k:=w.heap.size) (.int .i64 g1) (.int .i64 m1) (.int .i64 j1) (by omega)).trans hb0
 have hq1:=(putS_other (w:=wb) (b:=wa.heap.size) (k:=w.heap.size+1) (.int .i64 g1) (.int .i64 m1) (.int .i64 j1) (by omega)).trans hb1
 have hq2:=(putS_other (w:=wb) (b:=wa.heap.size) (k:=w.heap.size+1+1) (.int .i64 g1) (.int .i64 m1) (.int .i64 j1) (by omega)).trans hb2
 rw [putS] at hX hB hq0 hq1 hq2
 have HQ:=Lib.hid (And.intro hX (And.intro hB (And.intro hq0 (And.intro hq1 hq2))))
 clear hX hB hq0 hq1 hq2
 replace hE:=Lib.hid hE
 replace hb0:=Lib.hid hb0
 replace hb1:=Lib.hid hb1
 replace hb2:=Lib.hid hb2
 replace hb3:=Lib.hid hb3
 go_upto_region 3 with (fail)
 clear z0 z1 z2 zz zl hE hb0 hb1 hb2 hb3
 obtain ⟨hE,hb3,hb0,hb1,hb2⟩:=HQ.out
 clear HQ
 generalize (World.setCell _ (⟨wa.heap.size,2,none⟩ : Addr) _) = X at hE hb3 hb0 hb1 hb2 ⊢
 have ⟨c0,c1,c2,c3,c4,c5,lt⟩:=PBox.plc hb0
 have d2:=cell_at (o:=0) hb1 rfl
 have d3:=cell_at (o:=0) hb3 rfl
 have d4:=cell_at (o:=1) hb3 rfl
 have d5:=cell_at (o:=2) hb3 rfl
 have e2:=cell_lt d2
 have e3:=cell_lt d3
 replace hE:=Lib.hid hE
 replace hb0:=Lib.hid hb0
 replace hb1:=Lib.hid hb1
 replace hb2:=Lib.hid hb2
 replace hb3:=Lib.hid hb3
 refine wp_region_mix (fun w' => ∃ s,w' = over X s) [(0,[0,1,3,6]),(1,[2]),(1,[4]),(1,[5]),(1,[7]),(2,[8])] (by kernel_rfl) (by kernel_rfl) (over_of (ext_drew (ext_refl X))) ?_
 simp only [pieces,pickL,List.map_cons,List.map_nil,List.getD_cons_zero,List.getD_cons_succ]
 refine mix_reads ?_
 repeat (go_big_quiet_step (fail))
 refine wpQuiet_nil (mix_acts ?_)
 have HX0:=Lib.hid (ext_drew (ext_refl X))
 go_wp2_with (go_at_call 21;refine (state_any p n _).mono ?_;rintro e w1 ⟨rfl,hx⟩;have HX1:=Lib.hid (ext_trans HX0.out hx);clear hx)
 refine mixQ_mk (over_of HX1.out) (mix_acts ?_)
 go_wp2_with (go_at_call 22;refine (hD.out _).mono ?_;rintro e w2 ⟨rfl,hx⟩;have HX2:=Lib.hid (ext_trans HX1.out hx);clear hx)
 refine mixQ_mk (over_of HX2.out) (mix_acts ?_)
 go_wp2_with (go_at_call 120;refine (set_PT (p.stF n) (St.word ⟨g1,m1,j1⟩) _).mono ?_;rintro e w4 ⟨v1,F1,rfl,hx,hp1,hbn1,hsub1⟩;refine Hid.out ?_)
 refine Lib.hid ?_
 replace hE:=hE.out
 replace hb0:=hb0.out
 replace hb1:=hb1.out
 replace hb2:=hb2.out
 replace hb3:=hb3.out
 have hn1:¬ F1 (w.heap.size+1+1):=fun h => (hsub1 _ h).elim (fun h => h) fun h => by have:=heap_lt hb2;have:=HX2.out.size;omega
 have hs1:∀ j,F1 j → noF j ∨ w.heap.size ≤ j:=fun j hj => (hsub1 j hj).imp_right fun h => Nat.le_trans (Nat.le_trans hE.size HX2.out.size) h
 have HX4:=Lib.hid (ext_trans HX2.out hx)
 replace hb0:=(HX4.out.block _ (heap_lt hb0)).trans hb0
 replace hb1:=(HX4.out.block _ (heap_lt hb1)).trans hb1
 replace hb2:=(HX4.out.block _ (heap_lt hb2)).trans hb2
 replace hb3:=(HX4.out.block _ (heap_lt hb3)).trans hb3
 replace hE:=ext_trans hE HX4.out
 clear hx hsub1
 replace hE:=Lib.hid hE
 replace hb0:=Lib.hid hb0
 replace hb1:=Lib.hid hb1
 replace hb2:=Lib.hid hb2
 replace hb3:=Lib.hid hb3
 replace hp1:=Lib.hid hp1
 replace hbn1:=Lib.hid hbn1
 replace hs1:=Lib.hid hs1
 replace hn1:=Lib.hid hn1
 go_wp2
 refine mixQ_mk (over_of HX4.out) (mix_acts ?_)
 go_wp2_with (go_at_call 227;refine Hid.out ?_)
 refine Lib.hid ?_
 replace hE:=hE.out
 replace hb0:=hb0.out
 replace hb1:=hb1.out
 replace hb2:=hb2.out
 replace hb3:=hb3.out
 replace hp1:=hp1.out
 replace hbn1:=hbn1.out
 replace hs1:=hs1.out
 replace hn1:=hn1.out
 have hCT:=frd2_CT p n ⟨g1,m1,j1⟩ N wa.heap.size w.heap.size (w.heap.size+1) w4 hb3 hb0 hb1
 refine (then_NI _ _ F1 _ v1 _ w4 hp1 hCT hbn1 (fun j h => by rcases h with rfl | rfl | rfl;exact heap_lt hb3;exact heap_lt hb0;exact heap_lt hb1)).mono ?_
 rintro e w' hR
 have HXZ:=Lib.hid (ext_trans HX4.out hR.ext)
 obtain ⟨v',F',rfl,hX,hp,hbn,hsub,hnF,hbq⟩:=hR.tail (G:=noF) (w.heap.size+1+1) hE (heap_lt hb2) (fun h => by rcases h with h | h | h | h;exact hn1 h;omega;omega;omega) (fun j h => by rcases h with h | h | h | h;exact hs1 j h;exact .inr (by omega);exact .inr (by omega);exact .inr (by omega))
 have hbx:=hbq.trans hb2
 clear hbq hR
 go_wp2
 refine mixQ_mk (over_of HXZ.out) (mix_late ?_)
 clear hE hb0 hb1 hb2 hb3 hp1 hbn1 hs1 hn1 hCT c0 c1 c2 c3 c4 c5 lt d2 d3 d4 d5 e2 e3 hO hF hD
 obtain ⟨y,a2,fn2,rfl,HFN,HX⟩:=tlI hp hX hbx hbn hsub hnF (by omega)
 obtain ⟨c0,c1,c2,c3,c4,c5,c6,cz,ll⟩:=sev_of hbx
 clear hX hbx hp hbn hsub hnF
 rcases HFN.out with rfl | ⟨g',caps',rfl⟩
 all_goals
  go_wp2
  refine lateQ_mk (fun _ => True) trivial (mix_end ?_)
  clear c0 c1 c2 c3 c4 c5 c6 cz ll
  obtain ⟨hX,hB,hP⟩:=HX.out
  clear HX
  generalize (World.setCell _ (⟨w.heap.size+1+1,6,none⟩ : Addr) _) = Z at hX hB hP ⊢
  obtain ⟨c0,c1,c2,c3,c4,c5,c6,cz,ll⟩:=sev_of hB
  go_wp2
  exact bodyPost_ret (by simp only [results,Tryz.results266,go_sem];simp [go_sem,c0,c1,c2,c3,c4,c5,c6]) rfl ⟨_,F',rfl,hX,hP⟩
end Go.Proofs.YthjklbonebnekaaGreat

