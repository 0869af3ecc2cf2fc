/-
  What the calls of a plan that tell a place come to. Conditions: those of each theorem.
-/
import Derived.Test.YthjklbonebnekaaGreatGaa
import Derived.Test.YthjklbonebnekaaGreatGah
import Derived.Test.YthjklbonebnekaaGreatGai
import Derived.Test.YthjklbonebnekaaGreatGaj
set_option maxRecDepth 8000
set_option maxHeartbeats 4000000
namespace Go.Proofs.YthjklbonebnekaaGreat
open Go Go.RowKit
theorem PlaceSpec.mk {p:Pl} {at_ r:Int} {l:List T3} {q:Prop} [Decidable q] {y:Int} (hr:r = if p.ok ∧ q then y else -1) (h:p.ok → (Bd l ↔ q)) (he:p.ok → q → at_ = y):PlaceSpec p at_ l r:=by
 refine ⟨fun hk hb => ?_,fun hn => ?_⟩
 ·have hq:=(h hk).1 hb
  rw [hr,if_pos ⟨hk,hq⟩,he hk hq]
 ·rw [hr,if_neg]
  rintro ⟨hk,hq⟩
  exact hn ⟨hk,(h hk).2 hq⟩
theorem most_of {x m:Int} (h0:0 ≤ m) (h1:m ≤ 1048576):(0 ≤ x ∧ x ≤ wrap64 (m - 1)) ↔ (0 ≤ x ∧ x < m):=by
 rw [IntWalk.wrap64_in (m - 1) (by omega)]
 omega
theorem Pl.lim {p:Pl} (h:p.ok):(0 ≤ p.n ∧ p.n ≤ 1048576) ∧ (0 ≤ p.t ∧ p.t ≤ 1048576) ∧ (0 ≤ p.r ∧ p.r ≤ 1048576) ∧ (0 ≤ p.d ∧ p.d ≤ 1048576) ∧ (0 ≤ p.c ∧ p.c ≤ 1048576):=by
 have h1:=p.c_le
 unfold Pl.ok at h
 have h2:=p.c_ge (by omega)
 omega
theorem kind_spec (p:Pl) (x:Int):PlaceSpec p (p.domW x) [⟨x,0,wrap64 (p.d - 1)⟩] (p.kindF x):=by
 refine PlaceSpec.mk (by unfold Pl.kindF;rfl) (fun hk => ?_) (fun hk hq => ?_)
 ·have hl:=Pl.lim hk
  simp only [bd_cons,bd_nil,and_true]
  exact most_of hl.2.2.2.1.1 hl.2.2.2.1.2
 ·exact Pl.domW_eq hk (by omega) (by omega)
theorem hazard_spec (p:Pl) (x i:Int):PlaceSpec p (wrap64 (p.hazW x+i)) [⟨x,0,wrap64 (p.t - 1)⟩,⟨i,0,wrap64 2⟩] (p.hazF x i):=by
 refine PlaceSpec.mk (by unfold Pl.hazF;rfl) (fun hk => ?_) (fun hk hq => ?_)
 ·have hl:=Pl.lim hk
  simp only [bd_cons,bd_nil,and_true]
  exact and_congr (most_of hl.2.1.1 hl.2.1.2) ((show (0 ≤ i ∧ i ≤ wrap64 2) ↔ (0 ≤ i ∧ i < 3) by rw [IntWalk.wrap64_in 2 (by omega)];omega))
 ·have hb:=Pl.haz_in hk (x:=x) (by omega) (by omega);rw [Pl.hazW_eq hk (by omega) (by omega),IntWalk.wrap64_in _ (by omega)]
theorem hazard_any (p:Pl) (x i:Int) (w:World):Calls Tryz.prog 54 #[plV p,.int .i64 x,.int .i64 i] w (Ret (.int .i64 (p.hazF x i)) w):=by
 go_enter Tryz.func54,Tryz.ntmps54
 go_wp2
 refine wp_region_mix (fun w' => ∃ s,w' = over (w.alloc (.cells #[.int .i64 p.n,.int .i64 p.t,.int .i64 p.r,.int .i64 p.d,.int .i64 p.b,.int .i64 p.g] 23)) s) [(0,[0,1,2,4,6,7,8,10]),(1,[3]),(0,[5]),(1,[9]),(1,[11]),(1,[12]),(1,[13]),(0,[14])] (by kernel_rfl) (by kernel_rfl) (over_of (ext_drew (ext_refl _))) ?_
 simp only [pieces,pickL,List.map_cons,List.map_nil,List.getD_cons_zero,List.getD_cons_succ]
 have HX0:=Lib.hid (ext_drew (ext_refl (w.alloc (.cells #[.int .i64 p.n,.int .i64 p.t,.int .i64 p.r,.int .i64 p.d,.int .i64 p.b,.int .i64 p.g] 23))))
 refine mix_reads ?_
 repeat (go_big_quiet_step (fail))
 refine wpQuiet_nil (mix_acts ?_)
 go_wp2_with (go_at_call 132;refine (hazards_any p x _).mono ?_;rintro e w1 ⟨rfl,hx⟩;have HX1:=Lib.hid (ext_trans HX0.out hx);clear hx)
 refine mixQ_mk (over_of HX1.out) (mix_reads ?_)
 repeat (go_big_quiet_step (fail))
 refine wpQuiet_nil (mix_acts ?_)
 go_wp2_with (go_at_call 79;refine (one_any x p.t _).mono ?_;rintro e w2 ⟨rfl,hx⟩;have HX2:=Lib.hid (ext_trans HX1.out hx);clear hx)
 refine mixQ_mk (over_of HX2.out) (mix_acts ?_)
 go_wp2_with (go_at_call 79;refine (one_any i 3 _).mono ?_;rintro e w3 ⟨rfl,hx⟩;have HX3:=Lib.hid (ext_trans HX2.out hx);clear hx)
 refine mixQ_mk (over_of HX3.out) (mix_acts ?_)
 go_wp2
 have HX4:=Lib.hid (ext_alloc (.cells #[.int .i64 x,.int .i64 0,.int .i64 (wrap64 (p.t - 1)),.int .i64 i,.int .i64 0,.int .i64 (wrap64 2)] 165) HX3.out)
 refine mixQ_mk (over_of HX4.out) (mix_acts ?_)
 go_wp2_with (go_at_call 77;refine (place_any p (wrap64 (p.hazW x+i)) [⟨x,0,wrap64 (p.t - 1)⟩,⟨i,0,wrap64 2⟩] _ _ (p.hazF x i) (Lib.hid (hazard_spec p x i)) (ts_new _ _ _ _ _ _ rfl rfl rfl) (Nat.le_of_ble_eq_true rfl)).mono ?_;rintro e w5 ⟨rfl,hx⟩;have HX5:=Lib.hid (ext_trans HX4.out hx);clear hx)
 refine mixQ_mk (over_of HX5.out) (mix_reads ?_)
 repeat (go_big_quiet_step (fail))
 refine wpQuiet_nil (mix_end ?_)
 go_wp2
 go_ret
 exact Ret.mk (ext_trans (ext_alloc _ (ext_refl w)) HX5.out)
theorem cnt_spec (p:Pl) (x:Int):PlaceSpec p (p.cntW x) [⟨x,0,wrap64 (p.t - 1)⟩] (p.cntF x):=by
 refine PlaceSpec.mk (by unfold Pl.cntF;rfl) (fun hk => ?_) (fun hk hq => ?_)
 ·have hl:=Pl.lim hk
  simp only [bd_cons,bd_nil,and_true]
  exact most_of hl.2.1.1 hl.2.1.2
 ·exact Pl.cntW_eq hk (by omega) (by omega)
theorem cnt_any (p:Pl) (x:Int) (w:World):Calls Tryz.prog 96 #[plV p,.int .i64 x] w (Ret (.int .i64 (p.cntF x)) w):=by
 go_enter Tryz.func96,Tryz.ntmps96
 go_wp2
 refine wp_region_mix (fun w' => ∃ s,w' = over (w.alloc (.cells #[.int .i64 p.n,.int .i64 p.t,.int .i64 p.r,.int .i64 p.d,.int .i64 p.b,.int .i64 p.g] 23)) s) [(0,[0,1,2,4,5,6]),(1,[3]),(1,[7]),(1,[8]),(1,[9]),(0,[10])] (by kernel_rfl) (by kernel_rfl) (over_of (ext_drew (ext_refl _))) ?_
 simp only [pieces,pickL,List.map_cons,List.map_nil,List.getD_cons_zero,List.getD_cons_succ]
 have HX0:=Lib.hid (ext_drew (ext_refl (w.alloc (.cells #[.int .i64 p.n,.int .i64 p.t,.int .i64 p.r,.int .i64 p.d,.int .i64 p.b,.int .i64 p.g] 23))))
 refine mix_reads ?_
 repeat (go_big_quiet_step (fail))
 refine wpQuiet_nil (mix_acts ?_)
 go_wp2_with (go_at_call 160;refine (pcount_any p x _).mono ?_;rintro e w1 ⟨rfl,hx⟩;have HX1:=Lib.hid (ext_trans HX0.out hx);clear hx)
 refine mixQ_mk (over_of HX1.out) (mix_acts ?_)
 go_wp2_with (go_at_call 79;refine (one_any x p.t _).mono ?_;rintro e w2 ⟨rfl,hx⟩;have HX2:=Lib.hid (ext_trans HX1.out hx);clear hx)
 refine mixQ_mk (over_of HX2.out) (mix_acts ?_)
 go_wp2
 have HX3:=Lib.hid (ext_alloc (.cells #[.int .i64 x,.int .i64 0,.int .i64 (wrap64 (p.t - 1))] 165) HX2.out)
 refine mixQ_mk (over_of HX3.out) (mix_acts ?_)
 go_wp2_with (go_at_call 77;refine (place_any p (p.cntW x) [⟨x,0,wrap64 (p.t - 1)⟩] _ _ (p.cntF x) (Lib.hid (cnt_spec p x)) (ts_new _ _ _ _ _ _ rfl rfl rfl) (Nat.le_of_ble_eq_true rfl)).mono ?_;rintro e w4 ⟨rfl,hx⟩;have HX4:=Lib.hid (ext_trans HX3.out hx);clear hx)
 refine mixQ_mk (over_of HX4.out) (mix_reads ?_)
 repeat (go_big_quiet_step (fail))
 refine wpQuiet_nil (mix_end ?_)
 go_wp2
 go_ret
 exact Ret.mk (ext_trans (ext_alloc _ (ext_refl w)) HX4.out)
theorem retired_spec (p:Pl) (x i:Int):PlaceSpec p (wrap64 (wrap64 (p.cntW x+1)+i)) [⟨x,0,wrap64 (p.t - 1)⟩,⟨i,0,wrap64 (p.r - 1)⟩] (p.retF x i):=by
 refine PlaceSpec.mk (by unfold Pl.retF;rfl) (fun hk => ?_) (fun hk hq => ?_)
 ·have hl:=Pl.lim hk
  simp only [bd_cons,bd_nil,and_true]
  exact and_congr (most_of hl.2.1.1 hl.2.1.2) (most_of hl.2.2.1.1 hl.2.2.1.2)
 ·have hb:=Pl.cnt_in hk (x:=x) (by omega) (by omega);have hl:=Pl.lim hk;rw [Pl.cntW_eq hk (by omega) (by omega),IntWalk.wrap64_in (p.cnt x+1) (by omega),IntWalk.wrap64_in _ (by omega)]
theorem retired_any (p:Pl) (x i:Int) (w:World):Calls Tryz.prog 98 #[plV p,.int .i64 x,.int .i64 i] w (Ret (.int .i64 (p.retF x i)) w):=by
 go_enter Tryz.func98,Tryz.ntmps98
 go_wp2
 refine wp_region_mix (fun w' => ∃ s,w' = over (w.alloc (.cells #[.int .i64 p.n,.int .i64 p.t,.int .i64 p.r,.int .i64 p.d,.int .i64 p.b,.int .i64 p.g] 23)) s) [(0,[0,1,2,5,7,8,9,11,12,13]),(1,[3]),(0,[4,6]),(1,[10]),(1,[14]),(1,[15]),(1,[16]),(0,[17])] (by kernel_rfl) (by kernel_rfl) (over_of (ext_drew (ext_refl _))) ?_
 simp only [pieces,pickL,List.map_cons,List.map_nil,List.getD_cons_zero,List.getD_cons_succ]
 have HX0:=Lib.hid (ext_drew (ext_refl (w.alloc (.cells #[.int .i64 p.n,.int .i64 p.t,.int .i64 p.r,.int .i64 p.d,.int .i64 p.b,.int .i64 p.g] 23))))
 refine mix_reads ?_
 repeat (go_big_quiet_step (fail))
 refine wpQuiet_nil (mix_acts ?_)
 go_wp2_with (go_at_call 160;refine (pcount_any p x _).mono ?_;rintro e w1 ⟨rfl,hx⟩;have HX1:=Lib.hid (ext_trans HX0.out hx);clear hx)
 refine mixQ_mk (over_of HX1.out) (mix_reads ?_)
 repeat (go_big_quiet_step (fail))
 refine wpQuiet_nil (mix_acts ?_)
 go_wp2_with (go_at_call 79;refine (one_any x p.t _).mono ?_;rintro e w2 ⟨rfl,hx⟩;have HX2:=Lib.hid (ext_trans HX1.out hx);clear hx)
 refine mixQ_mk (over_of HX2.out) (mix_acts ?_)
 go_wp2_with (go_at_call 79;refine (one_any i p.r _).mono ?_;rintro e w3 ⟨rfl,hx⟩;have HX3:=Lib.hid (ext_trans HX2.out hx);clear hx)
 refine mixQ_mk (over_of HX3.out) (mix_acts ?_)
 go_wp2
 have HX4:=Lib.hid (ext_alloc (.cells #[.int .i64 x,.int .i64 0,.int .i64 (wrap64 (p.t - 1)),.int .i64 i,.int .i64 0,.int .i64 (wrap64 (p.r - 1))] 165) HX3.out)
 refine mixQ_mk (over_of HX4.out) (mix_acts ?_)
 go_wp2_with (go_at_call 77;refine (place_any p (wrap64 (wrap64 (p.cntW x+1)+i)) [⟨x,0,wrap64 (p.t - 1)⟩,⟨i,0,wrap64 (p.r - 1)⟩] _ _ (p.retF x i) (Lib.hid (retired_spec p x i)) (ts_new _ _ _ _ _ _ rfl rfl rfl) (Nat.le_of_ble_eq_true rfl)).mono ?_;rintro e w5 ⟨rfl,hx⟩;have HX5:=Lib.hid (ext_trans HX4.out hx);clear hx)
 refine mixQ_mk (over_of HX5.out) (mix_reads ?_)
 repeat (go_big_quiet_step (fail))
 refine wpQuiet_nil (mix_end ?_)
 go_wp2
 go_ret
 exact Ret.mk (ext_trans (ext_alloc _ (ext_refl w)) HX5.out)
theorem state_spec (p:Pl) (x:Int):PlaceSpec p (wrap64 (p.nodW x)) [⟨x,0,wrap64 (p.n - 1)⟩] (p.stF x):=by
 refine PlaceSpec.mk (by unfold Pl.stF;rfl) (fun hk => ?_) (fun hk hq => ?_)
 ·have hl:=Pl.lim hk
  simp only [bd_cons,bd_nil,and_true]
  exact most_of hl.1.1 hl.1.2
 ·have hb:=Pl.nod_in hk (x:=x) (by omega) (by omega);rw [Pl.nodW_eq hk (by omega) (by omega),IntWalk.wrap64_in _ (by omega)]
theorem state_any (p:Pl) (x:Int) (w:World):Calls Tryz.prog 21 #[plV p,.int .i64 x] w (Ret (.int .i64 (p.stF x)) w):=by
 go_enter Tryz.func21,Tryz.ntmps21
 go_wp2
 refine wp_region_mix (fun w' => ∃ s,w' = over (w.alloc (.cells #[.int .i64 p.n,.int .i64 p.t,.int .i64 p.r,.int .i64 p.d,.int .i64 p.b,.int .i64 p.g] 23)) s) [(0,[0,1,2,5,6,7]),(1,[3]),(0,[4]),(1,[8]),(1,[9]),(1,[10]),(0,[11])] (by kernel_rfl) (by kernel_rfl) (over_of (ext_drew (ext_refl _))) ?_
 simp only [pieces,pickL,List.map_cons,List.map_nil,List.getD_cons_zero,List.getD_cons_succ]
 have HX0:=Lib.hid (ext_drew (ext_refl (w.alloc (.cells #[.int .i64 p.n,.int .i64 p.t,.int .i64 p.r,.int .i64 p.d,.int .i64 p.b,.int .i64 p.g] 23))))
 refine mix_reads ?_
 repeat (go_big_quiet_step (fail))
 refine wpQuiet_nil (mix_acts ?_)
 go_wp2_with (go_at_call 78;refine (node_any p x _).mono ?_;rintro e w1 ⟨rfl,hx⟩;have HX1:=Lib.hid (ext_trans HX0.out hx);clear hx)
 refine mixQ_mk (over_of HX1.out) (mix_reads ?_)
 repeat (go_big_quiet_step (fail))
 refine wpQuiet_nil (mix_acts ?_)
 go_wp2_with (go_at_call 79;refine (one_any x p.n _).mono ?_;rintro e w2 ⟨rfl,hx⟩;have HX2:=Lib.hid (ext_trans HX1.out hx);clear hx)
 refine mixQ_mk (over_of HX2.out) (mix_acts ?_)
 go_wp2
 have HX3:=Lib.hid (ext_alloc (.cells #[.int .i64 x,.int .i64 0,.int .i64 (wrap64 (p.n - 1))] 165) HX2.out)
 refine mixQ_mk (over_of HX3.out) (mix_acts ?_)
 go_wp2_with (go_at_call 77;refine (place_any p (wrap64 (p.nodW x)) [⟨x,0,wrap64 (p.n - 1)⟩] _ _ (p.stF x) (Lib.hid (state_spec p x)) (ts_new _ _ _ _ _ _ rfl rfl rfl) (Nat.le_of_ble_eq_true rfl)).mono ?_;rintro e w4 ⟨rfl,hx⟩;have HX4:=Lib.hid (ext_trans HX3.out hx);clear hx)
 refine mixQ_mk (over_of HX4.out) (mix_reads ?_)
 repeat (go_big_quiet_step (fail))
 refine wpQuiet_nil (mix_end ?_)
 go_wp2
 go_ret
 exact Ret.mk (ext_trans (ext_alloc _ (ext_refl w)) HX4.out)
theorem next_spec (p:Pl) (x:Int):PlaceSpec p (wrap64 (p.nodW x+1)) [⟨x,0,wrap64 (p.n - 1)⟩] (p.nxF x):=by
 refine PlaceSpec.mk (by unfold Pl.nxF;rfl) (fun hk => ?_) (fun hk hq => ?_)
 ·have hl:=Pl.lim hk
  simp only [bd_cons,bd_nil,and_true]
  exact most_of hl.1.1 hl.1.2
 ·have hb:=Pl.nod_in hk (x:=x) (by omega) (by omega);rw [Pl.nodW_eq hk (by omega) (by omega),IntWalk.wrap64_in _ (by omega)]
theorem next_any (p:Pl) (x:Int) (w:World):Calls Tryz.prog 94 #[plV p,.int .i64 x] w (Ret (.int .i64 (p.nxF x)) w):=by
 go_enter Tryz.func94,Tryz.ntmps94
 go_wp2
 refine wp_region_mix (fun w' => ∃ s,w' = over (w.alloc (.cells #[.int .i64 p.n,.int .i64 p.t,.int .i64 p.r,.int .i64 p.d,.int .i64 p.b,.int .i64 p.g] 23)) s) [(0,[0,1,2,5,6,7]),(1,[3]),(0,[4]),(1,[8]),(1,[9]),(1,[10]),(0,[11])] (by kernel_rfl) (by kernel_rfl) (over_of (ext_drew (ext_refl _))) ?_
 simp only [pieces,pickL,List.map_cons,List.map_nil,List.getD_cons_zero,List.getD_cons_succ]
 have HX0:=Lib.hid (ext_drew (ext_refl (w.alloc (.cells #[.int .i64 p.n,.int .i64 p.t,.int .i64 p.r,.int .i64 p.d,.int .i64 p.b,.int .i64 p.g] 23))))
 refine mix_reads ?_
 repeat (go_big_quiet_step (fail))
 refine wpQuiet_nil (mix_acts ?_)
 go_wp2_with (go_at_call 78;refine (node_any p x _).mono ?_;rintro e w1 ⟨rfl,hx⟩;have HX1:=Lib.hid (ext_trans HX0.out hx);clear hx)
 refine mixQ_mk (over_of HX1.out) (mix_reads ?_)
 repeat (go_big_quiet_step (fail))
 refine wpQuiet_nil (mix_acts ?_)
 go_wp2_with (go_at_call 79;refine (one_any x p.n _).mono ?_;rintro e w2 ⟨rfl,hx⟩;have HX2:=Lib.hid (ext_trans HX1.out hx);clear hx)
 refine mixQ_mk (over_of HX2.out) (mix_acts ?_)
 go_wp2
 have HX3:=Lib.hid (ext_alloc (.cells #[.int .i64 x,.int .i64 0,.int .i64 (wrap64 (p.n - 1))] 165) HX2.out)
 refine mixQ_mk (over_of HX3.out) (mix_acts ?_)
 go_wp2_with (go_at_call 77;refine (place_any p (wrap64 (p.nodW x+1)) [⟨x,0,wrap64 (p.n - 1)⟩] _ _ (p.nxF x) (Lib.hid (next_spec p x)) (ts_new _ _ _ _ _ _ rfl rfl rfl) (Nat.le_of_ble_eq_true rfl)).mono ?_;rintro e w4 ⟨rfl,hx⟩;have HX4:=Lib.hid (ext_trans HX3.out hx);clear hx)
 refine mixQ_mk (over_of HX4.out) (mix_reads ?_)
 repeat (go_big_quiet_step (fail))
 refine wpQuiet_nil (mix_end ?_)
 go_wp2
 go_ret
 exact Ret.mk (ext_trans (ext_alloc _ (ext_refl w)) HX4.out)
theorem field_spec (p:Pl) (x i:Int):PlaceSpec p (wrap64 (wrap64 (p.nodW x+2)+i)) [⟨x,0,wrap64 (p.n - 1)⟩,⟨i,0,wrap64 2⟩] (p.fdF x i):=by
 refine PlaceSpec.mk (by unfold Pl.fdF;rfl) (fun hk => ?_) (fun hk hq => ?_)
 ·have hl:=Pl.lim hk
  simp only [bd_cons,bd_nil,and_true]
  exact and_congr (most_of hl.1.1 hl.1.2) ((show (0 ≤ i ∧ i ≤ wrap64 2) ↔ (0 ≤ i ∧ i < 3) by rw [IntWalk.wrap64_in 2 (by omega)];omega))
 ·have hb:=Pl.nod_in hk (x:=x) (by omega) (by omega);rw [Pl.nodW_eq hk (by omega) (by omega),IntWalk.wrap64_in (p.nod x+2) (by omega),IntWalk.wrap64_in _ (by omega)]
theorem field_any (p:Pl) (x i:Int) (w:World):Calls Tryz.prog 99 #[plV p,.int .i64 x,.int .i64 i] w (Ret (.int .i64 (p.fdF x i)) w):=by
 go_enter Tryz.func99,Tryz.ntmps99
 go_wp2
 refine wp_region_mix (fun w' => ∃ s,w' = over (w.alloc (.cells #[.int .i64 p.n,.int .i64 p.t,.int .i64 p.r,.int .i64 p.d,.int .i64 p.b,.int .i64 p.g] 23)) s) [(0,[0,1,2,5,7,8,9,11]),(1,[3]),(0,[4,6]),(1,[10]),(1,[12]),(1,[13]),(1,[14]),(0,[15])] (by kernel_rfl) (by kernel_rfl) (over_of (ext_drew (ext_refl _))) ?_
 simp only [pieces,pickL,List.map_cons,List.map_nil,List.getD_cons_zero,List.getD_cons_succ]
 have HX0:=Lib.hid (ext_drew (ext_refl (w.alloc (.cells #[.int .i64 p.n,.int .i64 p.t,.int .i64 p.r,.int .i64 p.d,.int .i64 p.b,.int .i64 p.g] 23))))
 refine mix_reads ?_
 repeat (go_big_quiet_step (fail))
 refine wpQuiet_nil (mix_acts ?_)
 go_wp2_with (go_at_call 78;refine (node_any p x _).mono ?_;rintro e w1 ⟨rfl,hx⟩;have HX1:=Lib.hid (ext_trans HX0.out hx);clear hx)
 refine mixQ_mk (over_of HX1.out) (mix_reads ?_)
 repeat (go_big_quiet_step (fail))
 refine wpQuiet_nil (mix_acts ?_)
 go_wp2_with (go_at_call 79;refine (one_any x p.n _).mono ?_;rintro e w2 ⟨rfl,hx⟩;have HX2:=Lib.hid (ext_trans HX1.out hx);clear hx)
 refine mixQ_mk (over_of HX2.out) (mix_acts ?_)
 go_wp2_with (go_at_call 79;refine (one_any i 3 _).mono ?_;rintro e w3 ⟨rfl,hx⟩;have HX3:=Lib.hid (ext_trans HX2.out hx);clear hx)
 refine mixQ_mk (over_of HX3.out) (mix_acts ?_)
 go_wp2
 have HX4:=Lib.hid (ext_alloc (.cells #[.int .i64 x,.int .i64 0,.int .i64 (wrap64 (p.n - 1)),.int .i64 i,.int .i64 0,.int .i64 (wrap64 2)] 165) HX3.out)
 refine mixQ_mk (over_of HX4.out) (mix_acts ?_)
 go_wp2_with (go_at_call 77;refine (place_any p (wrap64 (wrap64 (p.nodW x+2)+i)) [⟨x,0,wrap64 (p.n - 1)⟩,⟨i,0,wrap64 2⟩] _ _ (p.fdF x i) (Lib.hid (field_spec p x i)) (ts_new _ _ _ _ _ _ rfl rfl rfl) (Nat.le_of_ble_eq_true rfl)).mono ?_;rintro e w5 ⟨rfl,hx⟩;have HX5:=Lib.hid (ext_trans HX4.out hx);clear hx)
 refine mixQ_mk (over_of HX5.out) (mix_reads ?_)
 repeat (go_big_quiet_step (fail))
 refine wpQuiet_nil (mix_end ?_)
 go_wp2
 go_ret
 exact Ret.mk (ext_trans (ext_alloc _ (ext_refl w)) HX5.out)
theorem head_any (p:Pl) (w:World):Calls Tryz.prog 91 #[plV p] w (Ret (.int .i64 p.headF) w):=by
 have HS:Hid (PlaceSpec p 0 [] p.headF):=Lib.hid ⟨fun h _ => by unfold Pl.headF;rw [if_pos h],fun h => by unfold Pl.headF;rw [if_neg fun hk => h ⟨hk,bd_nil⟩]⟩
 go_enter Tryz.func91,Tryz.ntmps91
 go_wp2_with (go_at_call 77;refine (place_any p 0 [] _ _ p.headF HS (ts_nil _) (by decide)).mono ?_;rintro e w' hr;obtain ⟨rfl,s,rfl⟩:=hr.over;clear hr)
 go_ret
 exact Ret.mk (by repeat (first | exact ext_refl _ | apply ext_over | apply ext_alloc))
theorem size_any (p:Pl) (w:World):Calls Tryz.prog 57 #[plV p] w (Ret (.int .i64 p.sizeF) w):=by
 by_cases hk:p.ok
 ·have E:Hid (p.nodW p.n = p.sizeF):=Lib.hid (by unfold Pl.sizeF;rw [if_pos hk];exact Pl.nodW_eq hk (by unfold Pl.ok at hk;omega) (Int.le_refl _))
  have F:=Lib.hid hk
  clear hk
  go_enter Tryz.func57,Tryz.ntmps57
  go_wp2_with (first | (go_at_call 107;refine (formed_any p _ true (hid_yes F.out)).mono ?_;rintro e w' hr;obtain ⟨rfl,s,rfl⟩:=hr.over;clear hr) | (go_at_call 78;refine (node_any p p.n _).mono ?_;rintro e w' hr;obtain ⟨rfl,s1,rfl⟩:=hr.over;clear hr))
  go_ret
  exact Ret.int E.out (by repeat (first | exact ext_refl _ | apply ext_over | apply ext_alloc))
 ·have E:Hid (0 = p.sizeF):=Lib.hid (by unfold Pl.sizeF;rw [if_neg hk])
  have F:=Lib.hid hk
  clear hk
  go_enter Tryz.func57,Tryz.ntmps57
  go_wp2_with (go_at_call 107;refine (formed_any p _ false (hid_no F.out)).mono ?_;rintro e w' hr;obtain ⟨rfl,s,rfl⟩:=hr.over;clear hr)
  go_ret
  exact Ret.int E.out (by repeat (first | exact ext_refl _ | apply ext_over | apply ext_alloc))
theorem rformed_any (p:Pl) (w:World) (r:Bool) (hr:Hid (r = true ↔ p.ok)):Calls Tryz.prog 46 #[plV p] w (Ret (.bool r) w):=by
 go_enter Tryz.func46,Tryz.ntmps46
 go_wp2
 all_goals go_ret
 all_goals refine Ret.bool ?_ (by repeat (first | exact ext_refl _ | apply ext_over | apply ext_alloc))
 all_goals (have h:=hr.out;unfold Pl.ok at h;cases r <;> simp only [Bool.false_eq_true,false_iff,true_iff] at h ⊢ <;> first | omega | (simp only [decide_eq_true_eq];omega) | (simp only [decide_eq_false_iff_not];omega))
def Pl.few (p:Pl):Prop:=p.ok → p.n ≤ 40 ∧ p.r ≤ 40 ∧ p.d ≤ 6 ∧ p.b ≤ 10
theorem few_any (p:Pl) (w:World) (r:Bool) (hr:Hid (r = true ↔ p.few)):Calls Tryz.prog 41 #[plV p] w (Ret (.bool r) w):=by
 by_cases hk:p.ok
 ·have F:=Lib.hid hk
  have HR:Hid (r = true ↔ p.n ≤ 40 ∧ p.r ≤ 40 ∧ p.d ≤ 6 ∧ p.b ≤ 10):=Lib.hid (hr.out.trans ⟨fun h => h hk,fun h _ => h⟩)
  clear hk hr
  go_enter Tryz.func41,Tryz.ntmps41
  go_wp2_with (go_at_call 46;refine (rformed_any p _ true (hid_yes F.out)).mono ?_;rintro e w' hr;obtain ⟨rfl,s,rfl⟩:=hr.over;clear hr)
  all_goals go_ret
  all_goals refine Ret.bool ?_ (by repeat (first | exact ext_refl _ | apply ext_over | apply ext_alloc))
  all_goals (have h:=HR.out;cases r <;> simp only [Bool.false_eq_true,false_iff,true_iff] at h ⊢ <;> first | omega | (simp only [decide_eq_true_eq];omega) | (simp only [decide_eq_false_iff_not];omega))
 ·have F:=Lib.hid hk
  have HR:Hid (true = r):=Lib.hid (hr.out.2 fun h => absurd h hk).symm
  clear hk hr
  go_enter Tryz.func41,Tryz.ntmps41
  go_wp2_with (go_at_call 46;refine (rformed_any p _ false (hid_no F.out)).mono ?_;rintro e w' hr;obtain ⟨rfl,s,rfl⟩:=hr.over;clear hr)
  go_ret
  exact Ret.bool HR.out (by repeat (first | exact ext_refl _ | apply ext_over | apply ext_alloc))
theorem formed_yes (a b:Int) (w:World) (h:Fm a b) :
  Calls Tryz.prog 169 #[.agg #[.int .i64 a,.int .i64 b]] w (Ret (.bool true) w):=by
 obtain ⟨h1,h2,h3,h4⟩:=h
 go_enter Tryz.func169,Tryz.ntmps169
 go_wp2
 go_ret
 exact Ret.mk (by repeat (first | exact ext_refl _ | apply ext_over | apply ext_alloc))
theorem formed_no (a b:Int) (w:World) (h:¬ Fm a b) :
  Calls Tryz.prog 169 #[.agg #[.int .i64 a,.int .i64 b]] w (Ret (.bool false) w):=by
 unfold Fm at h
 by_cases h1:0 ≤ a
 ·by_cases h2:a < 64
  ·by_cases h3:1 ≤ b
   ·have h4:decide (b ≤ 64 - a) = false:=by simp;omega
    clear h
    go_enter Tryz.func169,Tryz.ntmps169
    go_wp2
    go_ret
    exact Ret.mk (by repeat (first | exact ext_refl _ | apply ext_over | apply ext_alloc))
   ·clear h
    go_enter Tryz.func169,Tryz.ntmps169
    go_wp2
    go_ret
    exact Ret.mk (by repeat (first | exact ext_refl _ | apply ext_over | apply ext_alloc))
  ·clear h
   go_enter Tryz.func169,Tryz.ntmps169
   go_wp2
   go_ret
   exact Ret.mk (by repeat (first | exact ext_refl _ | apply ext_over | apply ext_alloc))
 ·clear h
  go_enter Tryz.func169,Tryz.ntmps169
  go_wp2
  go_ret
  exact Ret.mk (by repeat (first | exact ext_refl _ | apply ext_over | apply ext_alloc))
theorem most_yes (a b:Int) (w:World) (h:Fm a b) :
  Calls Tryz.prog 162 #[.agg #[.int .i64 a,.int .i64 b]] w (Ret (.int .u64 (U (mostN b))) w):=by
 have ⟨h1,h2,h3,h4⟩:=h
 go_enter Tryz.func162,Tryz.ntmps162
 go_wp2_with (go_at_call 169;refine (formed_yes _ _ _ h).mono ?_;rintro e w' hr;obtain ⟨rfl,s,rfl⟩:=hr.over;clear hr)
 go_ret
 refine Ret.int ?_ (by repeat (first | exact ext_refl _ | apply ext_over | apply ext_alloc))
 rw [show (64 - b).toNat = 64 - b.toNat by omega,ones_shr,mostN_def,U_toNat]
theorem mask_yes (a b:Int) (w:World) (h:Fm a b) :
  Calls Tryz.prog 170 #[.agg #[.int .i64 a,.int .i64 b]] w (Ret (.int .u64 (U (maskN a b))) w):=by
 have ⟨h1,h2,h3,h4⟩:=h
 go_enter Tryz.func170,Tryz.ntmps170
 go_wp2
 first | refine wp_region_over2 (by kernel_rfl) (by kernel_rfl) ?_ | refine wp_region_over (by kernel_rfl) (by kernel_rfl) ?_
 repeat (go_big_quiet_step ((go_at_call 162;exact over_call (most_yes _ _ _ h))))
 refine wpQuiet_nil ?_
 intro _ hw'
 obtain ⟨s,hw''⟩:=hw'
 subst hw''
 go_wp2
 go_ret
 exact Ret.int (by rw [maskN_def]) (by repeat (first | exact ext_refl _ | apply ext_over | apply ext_alloc))
theorem get_yes (a b:Int) (x:BitVec 64) (w:World) (h:Fm a b) :
  Calls Tryz.prog 90 #[.agg #[.int .i64 a,.int .i64 b],.int .u64 (U x)] w (Ret (.int .u64 (U (getN a b x))) w):=by
 have ⟨h1,h2,h3,h4⟩:=h
 go_enter Tryz.func90,Tryz.ntmps90
 go_wp2_with (go_at_call 169;refine (formed_yes _ _ _ h).mono ?_;rintro e w' hr;obtain ⟨rfl,s,rfl⟩:=hr.over;clear hr)
 first | refine wp_region_over2 (by kernel_rfl) (by kernel_rfl) ?_ | refine wp_region_over (by kernel_rfl) (by kernel_rfl) ?_
 repeat (go_big_quiet_step ((go_at_call 170;exact over_call (mask_yes _ _ _ h))))
 refine wpQuiet_nil ?_
 intro _ hw'
 obtain ⟨s',hw''⟩:=hw'
 subst hw''
 go_wp2
 go_ret
 exact Ret.int (by rw [getN_def]) (by repeat (first | exact ext_refl _ | apply ext_over | apply ext_alloc))
theorem put_yes (a b:Int) (x v:BitVec 64) (w:World) (h:Fm a b) :
  Calls Tryz.prog 163 #[.agg #[.int .i64 a,.int .i64 b],.int .u64 (U x),.int .u64 (U v)] w (Ret (.int .u64 (U (putN a b x v))) w):=by
 have ⟨h1,h2,h3,h4⟩:=h
 go_enter Tryz.func163,Tryz.ntmps163
 go_wp2_with (go_at_call 169;refine (formed_yes _ _ _ h).mono ?_;rintro e w' hr;obtain ⟨rfl,s,rfl⟩:=hr.over;clear hr)
 first | refine wp_region_over2 (by kernel_rfl) (by kernel_rfl) ?_ | refine wp_region_over (by kernel_rfl) (by kernel_rfl) ?_
 repeat (go_big_quiet_step ((go_at_call 170;exact over_call (mask_yes _ _ _ h))))
 refine wpQuiet_nil ?_
 intro _ hw'
 obtain ⟨s',hw''⟩:=hw'
 subst hw''
 go_wp2
 go_ret
 exact Ret.int (by rw [putN_def]) (by repeat (first | exact ext_refl _ | apply ext_over | apply ext_alloc))
theorem put_at (a b x v:Int) (X V:BitVec 64) (w:World) (h:Fm a b) (hx:x = U X) (hv:v = U V) :
  Calls Tryz.prog 163 #[.agg #[.int .i64 a,.int .i64 b],.int .u64 x,.int .u64 v] w (Ret (.int .u64 (U (putN a b X V))) w):=by
 subst hx hv
 exact put_yes a b X V w h
theorem get_put (a b:Int) (w v:BitVec 64) (h:Fm a b):getN a b (putN a b w v) = v &&& mostN b:=by
 apply bv_eq;intro i hi
 rw [getN_bit a b _ _ h,BitVec.getLsbD_and,mostN_bit b i (by have:=h.2.2.1;omega) (by have:=h.1;have:=h.2.2.2;omega),Bool.and_comm]
 by_cases e:(i:Int) < b
 ·obtain ⟨h1,h2,h3,h4⟩:=h
  rw [putN_bit a b _ _ _ ⟨h1,h2,h3,h4⟩ (by omega),if_pos (by omega),show a.toNat+i - a.toNat = i by omega]
 ·simp [e]
def nameW (n:Int):BitVec 64:=BitVec.ofNat 64 (n+1).toNat
def nodeI (x:BitVec 64):Int:=U x - 1
def ndW (h:BitVec 64):BitVec 64:=getN 0 21 h
def tagW (h:BitVec 64):BitVec 64:=getN 21 43 h
def folW (h x:BitVec 64):BitVec 64:=putN 21 43 (putN 0 21 h x) (tagW h+1#64)
theorem U_nameW {n:Int} (h0:0 ≤ n) (h1:n < 4611686018427387904):U (nameW n) = n+1:=by
 rw [U_toNat]
 unfold nameW
 rw [BitVec.toNat_ofNat]
 omega
theorem fmN:Fm 0 21:=⟨by decide,by decide,by decide,by decide⟩
theorem fmT:Fm 21 43:=⟨by decide,by decide,by decide,by decide⟩
theorem getN_lt (a b:Int) (x:BitVec 64) (h:Fm a b):(getN a b x).toNat < 2 ^ b.toNat:=by
 apply Nat.lt_pow_two_of_testBit
 intro i hi
 have:=getN_bit a b x i h
 rw [BitVec.getLsbD] at this
 rw [this]
 obtain ⟨h1,h2,h3,h4⟩:=h
 have:decide ((i:Int) < b) = false:=by simp;omega
 rw [this]
 rfl
theorem ndW_lt (h:BitVec 64):U (ndW h) < 2097152:=by
 have:=getN_lt 0 21 h fmN
 rw [U_toNat]
 unfold ndW
 have e:(2:Nat) ^ (21:Int).toNat = 2097152:=by decide
 omega
def sw1T (n:Int) (anew:Tr Int) (done:Bool):Tr Int:=if done then .done n else anew
def swT (p:Pl) (h x:BitVec 64) (n:Int) (anew:Tr Int):Tr Int:=(tryT p.headF h (folW h x)).bind (sw1T n anew)
def pop1T (p:Pl) (anew:Tr Int) (h:BitVec 64):Tr Int:=
 if ndW h = 0#64 then .done (-1) else (getT (p.nxF (nodeI (ndW h)))).bind fun nx => swT p h nx (nodeI (ndW h)) anew
def popT (p:Pl):Nat → Tr Int
 | 0 => .more
 | N+1 => (getT p.headF).bind (pop1T p (popT p N))
def push1T (p:Pl) (n:Int) (anew:Tr Int) (h:BitVec 64):Tr Int:=(setT (p.nxF n) (ndW h)).bind fun _ => swT p h (nameW n) n anew
def pushT (p:Pl) (n:Int):Nat → Tr Int
 | 0 => if p.nxF n = -1 then .done (-1) else .more
 | N+1 => if p.nxF n = -1 then .done (-1) else (getT p.headF).bind (push1T p n (pushT p n N))
def fnxW (p:Pl) (n:Int):BitVec 64:=if n = p.n - 1 then 0#64 else nameW (n+1)
def freshT (p:Pl):Nat → Int → Tr Unit
 | 0,_ => setT p.headF (putN 0 21 0#64 (nameW 0))
 | k+1,n => (setT (p.nxF n) (fnxW p n)).bind fun _ => freshT p k (n+1)
attribute [irreducible] nameW ndW tagW folW nodeI
def PBox (B:Nat) (p:Pl) (w:World):Prop:=w.heap[B]? = some (.cells #[.int .i64 p.n,.int .i64 p.t,.int .i64 p.r,.int .i64 p.d,.int .i64 p.b,.int .i64 p.g] 23 (0,0))
structure Plc (B:Nat) (p:Pl) (w:World):Prop where
 c0:w.cell? ⟨B,0,none⟩ = some (.int .i64 p.n)
 c1:w.cell? ⟨B,1,none⟩ = some (.int .i64 p.t)
 c2:w.cell? ⟨B,2,none⟩ = some (.int .i64 p.r)
 c3:w.cell? ⟨B,3,none⟩ = some (.int .i64 p.d)
 c4:w.cell? ⟨B,4,none⟩ = some (.int .i64 p.b)
 c5:w.cell? ⟨B,5,none⟩ = some (.int .i64 p.g)
 lt:B < w.heap.size
theorem PBox.plc {B:Nat} {p:Pl} {w:World} (h:PBox B p w):Plc B p w:=⟨cell_at h rfl,cell_at h rfl,cell_at h rfl,cell_at h rfl,cell_at h rfl,cell_at h rfl,heap_lt h⟩
theorem PBox.ext {B:Nat} {p:Pl} {w w':World} (h:PBox B p w) (hx:Ext w w'):PBox B p w':=(hx.block _ (heap_lt h)).trans h
theorem nodeField_any (w:World):Calls Tryz.prog 89 #[] w (Ret (.agg #[.int .i64 0,.int .i64 21]) w):=by
 go_enter Tryz.func89,Tryz.ntmps89
 go_wp2
 exact bodyPost_ret (v:=.agg #[.int .i64 0,.int .i64 21]) (by simp [results,Tryz.results89,go_sem]) rfl (Ret.mk (by repeat (first | exact ext_refl _ | apply ext_alloc)))
theorem tagField_any (w:World):Calls Tryz.prog 247 #[] w (Ret (.agg #[.int .i64 21,.int .i64 43]) w):=by
 go_enter Tryz.func247,Tryz.ntmps247
 go_wp2
 exact bodyPost_ret (v:=.agg #[.int .i64 21,.int .i64 43]) (by simp [results,Tryz.results247,go_sem]) rfl (Ret.mk (by repeat (first | exact ext_refl _ | apply ext_alloc)))
theorem getNd_any (h:BitVec 64) (w:World):Calls Tryz.prog 90 #[.agg #[.int .i64 0,.int .i64 21],.int .u64 (U h)] w (Ret (.int .u64 (U (ndW h))) w):=by
 have:=get_yes 0 21 h w fmN
 unfold ndW
 exact this
theorem getTag_any (h:BitVec 64) (w:World):Calls Tryz.prog 90 #[.agg #[.int .i64 21,.int .i64 43],.int .u64 (U h)] w (Ret (.int .u64 (U (tagW h))) w):=by
 have:=get_yes 21 43 h w fmT
 unfold tagW
 exact this
theorem name_any (n:Int) (h0:0 ≤ n) (h1:n < 4611686018427387904) (w:World):Calls Tryz.prog 210 #[.int .i64 n] w (Ret (.int .u64 (U (nameW n))) w):=by
 rw [U_nameW h0 h1]
 go_enter Tryz.func210,Tryz.ntmps210
 go_wp2
 go_ret
 exact Ret.int (by first | rfl | omega | (simp;omega)) (by repeat (first | exact ext_refl _ | apply ext_alloc))
theorem node_PT (x:BitVec 64) (h0:x ≠ 0#64) (h1:U x < 4611686018427387904) (w:World):Calls Tryz.prog 93 #[.int .u64 (U x)] w (Ret (.int .i64 (nodeI x)) w):=by
 have h2:1 ≤ U x:=by
  have h3:=U_nonneg x
  have:U x ≠ 0:=fun e => h0 (U_inj (e.trans U_0.symm))
  omega
 go_enter Tryz.func93,Tryz.ntmps93
 go_wp2
 go_ret
 exact Ret.int (by unfold nodeI;first | rfl | omega | (simp;omega)) (by repeat (first | exact ext_refl _ | apply ext_alloc))
theorem fol_any (h x:BitVec 64) (w:World):Calls Tryz.prog 217 #[.int .u64 (U h),.int .u64 (U x)] w (Ret (.int .u64 (U (folW h x))) w):=by
 have e1:IntKind.u64.wrap (U (tagW h)+1) = U (tagW h+1#64):=by
  have:=U_add (tagW h) 1#64
  rwa [U_1] at this
 have e2:folW h x = putN 21 43 (putN 0 21 h x) (tagW h+1#64):=by unfold folW;rfl
 rw [e2]
 go_enter Tryz.func217,Tryz.ntmps217
 go_wp2_with (go_at_call 247;refine Hid.out ?_)
 refine Lib.hid ?_
 refine (tagField_any _).mono ?_
 rintro e w1 ⟨rfl,hx⟩
 have HXw1:=Lib.hid (hx)
 clear hx
 go_wp2_with (go_at_call 90;refine Hid.out ?_)
 refine Lib.hid ?_
 refine (getTag_any h _).mono ?_
 rintro e w2 ⟨rfl,hx⟩
 have HXw2:=Lib.hid (ext_trans HXw1.out hx)
 clear hx
 go_wp2_with (go_at_call 247;refine Hid.out ?_)
 refine Lib.hid ?_
 refine (tagField_any _).mono ?_
 rintro e w3 ⟨rfl,hx⟩
 have HXw3:=Lib.hid (ext_trans HXw2.out hx)
 clear hx
 go_wp2_with (go_at_call 89;refine Hid.out ?_)
 refine Lib.hid ?_
 refine (nodeField_any _).mono ?_
 rintro e w4 ⟨rfl,hx⟩
 have HXw4:=Lib.hid (ext_trans HXw3.out hx)
 clear hx
 go_wp2_with (go_at_call 163;refine Hid.out ?_)
 refine Lib.hid ?_
 refine (put_yes 0 21 h x _ fmN).mono ?_
 rintro e w5 ⟨rfl,hx⟩
 have HXw5:=Lib.hid (ext_trans HXw4.out hx)
 clear hx
 go_wp2_with (go_at_call 163;refine Hid.out ?_)
 refine Lib.hid ?_
 first | rw [e1] | skip
 refine (put_yes 21 43 (putN 0 21 h x) (tagW h+1#64) _ fmT).mono ?_
 rintro e w6 ⟨rfl,hx⟩
 have HXw6:=Lib.hid (ext_trans HXw5.out hx)
 clear hx
 go_wp2
 go_ret
 exact Ret.mk HXw6.out
end Go.Proofs.YthjklbonebnekaaGreat

