/-
  What the calls of package handle come to, but Of and Mine. Conditions: those of each theorem.
-/
import Derived.Test.YthjklbonebnekaaGreatGab
import Derived.Test.YthjklbonebnekaaGreatGap
import Derived.Test.YthjklbonebnekaaGreatGbf
import Derived.Laws.StructEq
set_option maxRecDepth 8000
set_option maxHeartbeats 4000000
namespace Go.Proofs.YthjklbonebnekaaGreat
open Go Go.RowKit
abbrev hnV (h:Hn):Value:=.agg #[.int .i64 h.i,.int .i64 h.g,.int .i64 h.t]
theorem hupTo_any (n most:Int) (w:World):Calls Tryz.prog 232 #[.int .i64 n,.int .i64 most] w (Ret (.bool (upF n most)) w):=by
 by_cases h1:0 ≤ n
 ·by_cases h2:n ≤ most
  ·rw [upF_yes h1 h2]
   go_enter Tryz.func232,Tryz.ntmps232
   go_wp2
   go_ret
   exact Ret.mk (by repeat (first | exact ext_refl _ | apply ext_over | apply ext_alloc | (refine ext_set _ ?_ ?_;exact Nat.le_refl _)))
  ·rw [upF_no fun h => h2 h.2]
   have h3:decide (n ≤ most) = false:=by simpa using h2
   clear h2
   go_enter Tryz.func232,Tryz.ntmps232
   go_wp2
   go_ret
   exact Ret.mk (by repeat (first | exact ext_refl _ | apply ext_over | apply ext_alloc | (refine ext_set _ ?_ ?_;exact Nat.le_refl _)))
 ·rw [upF_no fun h => h1 h.1]
  go_enter Tryz.func232,Tryz.ntmps232
  go_wp2
  go_ret
  exact Ret.mk (by repeat (first | exact ext_refl _ | apply ext_over | apply ext_alloc | (refine ext_set _ ?_ ?_;exact Nat.le_refl _)))
theorem hformed_yes (h:Hn) (k:h.ok) (w:World):Calls Tryz.prog 178 #[hnV h] w (Ret (.bool true) w):=by
 have ⟨h1,h2,h3,h4,h5,h6⟩:=k
 have e1:=upF_yes h1 h2
 have e2:=upF_yes h3 h4
 have e3:=upF_yes h5 h6
 clear k h1 h2 h3 h4 h5 h6
 go_enter Tryz.func178,Tryz.ntmps178
 go_wp2_with (go_at_call 232;refine (hupTo_any _ _ _).mono ?_;rintro e w' hr;obtain ⟨rfl,s,rfl⟩:=hr.over;clear hr)
 go_ret
 exact Ret.mk (by repeat (first | exact ext_refl _ | apply ext_over | apply ext_alloc | (refine ext_set _ ?_ ?_;exact Nat.le_refl _)))
theorem hformed_no (h:Hn) (k:¬ h.ok) (w:World):Calls Tryz.prog 178 #[hnV h] w (Ret (.bool false) w):=by
 by_cases c1:0 ≤ h.i ∧ h.i ≤ 1048575
 ·have e1:=upF_yes c1.1 c1.2
  by_cases c2:0 ≤ h.g ∧ h.g ≤ 1073741823
  ·have e2:=upF_yes c2.1 c2.2
   have e3:upF h.t 63 = false:=upF_no fun c3 => k ⟨c1.1,c1.2,c2.1,c2.2,c3.1,c3.2⟩
   clear k c1 c2
   go_enter Tryz.func178,Tryz.ntmps178
   go_wp2_with (go_at_call 232;refine (hupTo_any _ _ _).mono ?_;rintro e w' hr;obtain ⟨rfl,s,rfl⟩:=hr.over;clear hr)
   go_ret
   exact Ret.mk (by repeat (first | exact ext_refl _ | apply ext_over | apply ext_alloc | (refine ext_set _ ?_ ?_;exact Nat.le_refl _)))
  ·have e2:=upF_no c2
   clear k c1 c2
   go_enter Tryz.func178,Tryz.ntmps178
   go_wp2_with (go_at_call 232;refine (hupTo_any _ _ _).mono ?_;rintro e w' hr;obtain ⟨rfl,s,rfl⟩:=hr.over;clear hr)
   go_ret
   exact Ret.mk (by repeat (first | exact ext_refl _ | apply ext_over | apply ext_alloc | (refine ext_set _ ?_ ?_;exact Nat.le_refl _)))
 ·have e1:=upF_no c1
  clear k c1
  go_enter Tryz.func178,Tryz.ntmps178
  go_wp2_with (go_at_call 232;refine (hupTo_any _ _ _).mono ?_;rintro e w' hr;obtain ⟨rfl,s,rfl⟩:=hr.over;clear hr)
  go_ret
  exact Ret.mk (by repeat (first | exact ext_refl _ | apply ext_over | apply ext_alloc | (refine ext_set _ ?_ ?_;exact Nat.le_refl _)))
abbrev hfC:Array Value:=#[.int .i64 0,.int .i64 20,.int .i64 20,.int .i64 30,.int .i64 50,.int .i64 6,.int .i64 58,.int .i64 6]
abbrev hnC (h:Hn):Array Value:=#[.int .u64 (U (bvI h.i)),.int .u64 (U (bvI h.g)),.int .u64 (U (bvI h.t)),.int .u64 (U (bvI 42))]
theorem made_hfs {Y Z:World} {b:Nat} {t:TypeId} (h:Made Y b hfC t Z):Fs Z (.slice (some ⟨b,0,none⟩) 4 4) hnL:=by
 refine ⟨_,4,rfl,Nat.le_refl _,fun _ => ⟨b,0,rfl,hp_lt h.1,fun i hi => ?_⟩⟩
 have hi':i < 4:=hi
 have e:i = 0 ∨ i = 1 ∨ i = 2 ∨ i = 3:=by omega
 rcases e with rfl | rfl | rfl | rfl
 ·exact ⟨cell_at (o:=0) h.1 rfl,cell_at (o:=1) h.1 rfl⟩
 ·exact ⟨cell_at (o:=2) h.1 rfl,cell_at (o:=3) h.1 rfl⟩
 ·exact ⟨cell_at (o:=4) h.1 rfl,cell_at (o:=5) h.1 rfl⟩
 ·exact ⟨cell_at (o:=6) h.1 rfl,cell_at (o:=7) h.1 rfl⟩
theorem made_hus {Y Z:World} {b:Nat} {t:TypeId} {s:Hn} (h:Made Y b (hnC s) t Z):Us Z (.slice (some ⟨b,0,none⟩) 4 4) s.ns:=by
 refine ⟨_,4,rfl,Nat.le_refl _,fun _ => ⟨b,0,rfl,hp_lt h.1,fun i hi => ?_⟩⟩
 have hi':i < 4:=hi
 have e:i = 0 ∨ i = 1 ∨ i = 2 ∨ i = 3:=by omega
 rcases e with rfl | rfl | rfl | rfl
 ·exact cell_at (o:=0) h.1 rfl
 ·exact cell_at (o:=1) h.1 rfl
 ·exact cell_at (o:=2) h.1 rfl
 ·exact cell_at (o:=3) h.1 rfl
theorem hlayout_any (w:World):Calls Tryz.prog 179 #[] w (RetFs hnL w):=by
 go_enter Tryz.func179,Tryz.ntmps179
 go_wp2
 have H:=Made.mk hfC 168 (ext_refl w)
 go_ret
 exact ⟨_,rfl,ext_alloc _ (ext_refl _),made_hfs H⟩
theorem hnumbers_any (h:Hn) (k:h.ok) (w:World):Calls Tryz.prog 180 #[hnV h] w (RetRow h.ns w):=by
 obtain ⟨h1,h2,h3,h4,h5,h6⟩:=k
 go_enter Tryz.func180,Tryz.ntmps180
 go_wp2
 have H:=Made.mk (hnC h) 40 (ext_alloc (.cells #[.int .i64 h.i,.int .i64 h.g,.int .i64 h.t] 107) (ext_refl w))
 have HE:=ext_alloc (.cells (hnC h) 40) (ext_alloc (.cells #[.int .i64 h.i,.int .i64 h.g,.int .i64 h.t] 107) (ext_refl w))
 have HU:=made_hus H
 unfold hnC at HE HU
 rw [U_bvI _ h1 (by omega),U_bvI _ h3 (by omega),U_bvI _ h5 (by omega),U_bvI 42 (by omega) (by omega)] at HE HU
 rw [show (w.alloc (.cells #[.int .i64 h.i,.int .i64 h.g,.int .i64 h.t] 107)).heap.size = w.heap.size+1 from by simp] at HU
 go_ret
 exact ⟨_,rfl,HE,HU⟩
theorem hn_packs (h:Hn) (k:h.ok):PackSpec hnL h.ns h.word 0:=⟨fun _ => ⟨(hn_pack h k).symm,rfl⟩,fun hn => absurd (hn_fit h k) hn⟩
theorem hword_none (h:Hn) (k:¬ h.ok) (w:World):Calls Tryz.prog 115 #[hnV h] w (Ret (.int .u64 (U h.word)) w):=by
 rw [hword_no h k,U_0]
 go_enter Tryz.func115,Tryz.ntmps115
 go_wp2_with (go_at_call 178;refine (hformed_no _ k _).mono ?_;rintro e w' hr;obtain ⟨rfl,s0,rfl⟩:=hr.over;clear hr)
 go_ret
 exact Ret.mk (by repeat (first | exact ext_refl _ | apply ext_over | apply ext_alloc | (refine ext_set _ ?_ ?_;exact Nat.le_refl _)))
theorem hword_yes (h:Hn) (k:h.ok) (w:World):Calls Tryz.prog 115 #[hnV h] w (Ret (.int .u64 (U h.word)) w):=by
 have HP:=Lib.hid (hn_packs h k)
 go_enter Tryz.func115,Tryz.ntmps115
 go_wp2_with (go_at_call 178;refine (hformed_yes _ k _).mono ?_;rintro e w' hr;obtain ⟨rfl,s0,rfl⟩:=hr.over;clear hr)
 have HX:=Lib.hid (ext_over s0 (ext_alloc (.cells #[.int .i64 h.i,.int .i64 h.g,.int .i64 h.t] 107) (ext_refl w)))
 have HB:Hid (Made w w.heap.size #[.int .i64 h.i,.int .i64 h.g,.int .i64 h.t] 107 (over (w.alloc (.cells #[.int .i64 h.i,.int .i64 h.g,.int .i64 h.t] 107)) s0)):=Lib.hid ((Made.mk #[.int .i64 h.i,.int .i64 h.g,.int .i64 h.t] 107 (ext_refl w)).over s0)
 generalize over (w.alloc (.cells #[.int .i64 h.i,.int .i64 h.g,.int .i64 h.t] 107)) s0 = Y at HX HB ⊢
 generalize w.heap.size = bp at HB ⊢
 have lY:=hp_lt HB.out.1
 have c0:=cell_at (o:=0) HB.out.1 rfl
 have c1:=cell_at (o:=1) HB.out.1 rfl
 have c2:=cell_at (o:=2) HB.out.1 rfl
 simp only [List.getElem_toArray,List.getElem_cons_zero,List.getElem_cons_succ] at c0 c1 c2
 refine wp_region_mix (fun x => ∃ s,x = over Y s) [(0,[1]),(1,[0]),(1,[2]),(1,[3]),(0,[4,5,6,7,8])] (by kernel_rfl) (by kernel_rfl) (over_of (ext_drew (ext_refl Y))) ?_
 simp only [pieces,pickL,List.map_cons,List.map_nil,List.getD_cons_zero,List.getD_cons_succ]
 refine mix_reads ?_
 repeat (go_big_quiet_step (fail))
 refine wpQuiet_nil (mix_acts ?_)
 clear c0 c1 c2
 have HY:=Lib.hid (ext_drew (ext_refl Y))
 generalize Y.drew = Y0 at HY ⊢
 go_wp2_with (go_at_call 179;refine (hlayout_any _).mono ?_;rintro e w' hr;obtain ⟨sf,rfl,s1,rfl,HF⟩:=hr.over;clear hr)
 have HY1:=Lib.hid (ext_over s1 HY.out)
 refine mixQ_mk (over_of HY1.out) (mix_acts ?_)
 clear HY
 generalize over Y0 s1 = Y1 at HY1 HF ⊢
 go_wp2_with (go_at_call 180;refine (hnumbers_any h k _).mono ?_;rintro e w' hr;obtain ⟨sn,rfl,s2,rfl,HN⟩:=hr.over;clear hr)
 have HY2:=Lib.hid (ext_over s2 HY1.out)
 have HF2:=Lib.hid (HF.out.over s2)
 refine mixQ_mk (over_of HY2.out) (mix_acts ?_)
 clear HY1 HF
 generalize over Y1 s2 = Y2 at HY2 HF2 HN ⊢
 go_wp2_with (go_at_call 82;refine (pack_any hnL h.ns _ _ _ _ _ HP (by decide) HF2.out HN.out).mono ?_;rintro e w' hr;obtain ⟨rfl,s3,rfl⟩:=hr.over;clear hr)
 have HY3:=Lib.hid (ext_over s3 HY2.out)
 refine mixQ_mk (over_of HY3.out) (mix_reads ?_)
 clear HY2 HF2 HN
 generalize over Y2 s3 = Y3 at HY3 ⊢
 repeat (go_big_quiet_step (fail))
 refine wpQuiet_nil (mix_end ?_)
 go_wp2
 go_ret
 exact Ret.mk (ext_trans HX.out HY3.out)
theorem hword_any (h:Hn) (w:World):Calls Tryz.prog 115 #[hnV h] w (Ret (.int .u64 (U h.word)) w):=by
 by_cases k:h.ok
 ·exact hword_yes h k w
 ·exact hword_none h k w
theorem hof_split_yes (x:BitVec 64) (h:U x / 72057594037927936 % 4 = 0):SplitSpec hnL x [getN 0 20 x,getN 20 30 x,getN 50 6 x,getN 58 6 x] 0:=⟨fun hn => absurd hnL_lay hn,fun _ hn => absurd ((hn_out x).2 h) hn,fun _ _ => ⟨(hn_split x).symm,rfl⟩⟩
theorem hof_split_no (x:BitVec 64) (h:¬ U x / 72057594037927936 % 4 = 0):SplitSpec hnL x [] 10:=⟨fun hn => absurd hnL_lay hn,fun _ _ => ⟨rfl,rfl⟩,fun _ hz => absurd ((hn_out x).1 hz) h⟩
theorem hof_cells {x:BitVec 64} {X:World} {v:Value} (h:Us X v [getN 0 20 x,getN 20 30 x,getN 50 6 x,getN 58 6 x]):∃ b off cap,v = .slice (some ⟨b,off,none⟩) 4 cap ∧ b < X.heap.size ∧ X.cell? ⟨b,off,none⟩ = some (.int .u64 (hnN x).i) ∧ X.cell? ⟨b,off+1,none⟩ = some (.int .u64 (hnN x).g) ∧
  X.cell? ⟨b,off+2,none⟩ = some (.int .u64 (hnN x).t) ∧ X.cell? ⟨b,off+3,none⟩ = some (.int .u64 (U x / 288230376151711744 % 64)):=by
 obtain ⟨a0,cap,rfl,hc,hr⟩:=h
 obtain ⟨b,off,rfl,hb,hcell⟩:=hr (Nat.succ_pos _)
 refine ⟨b,off,cap,rfl,hb,?_,?_,?_,?_⟩
 ·have e:X.cell? ⟨b,off,none⟩ = some (.int .u64 (U (getN 0 20 x))):=hcell 0 (Nat.succ_pos _)
  rw [e,hU_get0];rfl
 ·have e:X.cell? ⟨b,off+1,none⟩ = some (.int .u64 (U (getN 20 30 x))):=hcell 1 (by simp)
  rw [e,hU_get1];rfl
 ·have e:X.cell? ⟨b,off+2,none⟩ = some (.int .u64 (U (getN 50 6 x))):=hcell 2 (by simp)
  rw [e,hU_get2];rfl
 ·have e:X.cell? ⟨b,off+3,none⟩ = some (.int .u64 (U (getN 58 6 x))):=hcell 3 (by simp)
  rw [e,hU_get3]
theorem hof_none (x:BitVec 64) (h:¬ U x / 72057594037927936 % 4 = 0) (w:World):Calls Tryz.prog 239 #[.int .u64 (U x)] w (Ret (.tuple #[hnV ⟨0,0,0⟩,.bool false]) w):=by
 have HS:=Lib.hid (hof_split_no x h)
 clear h
 go_enter Tryz.func239,Tryz.ntmps239
 go_wp2_with (first | (go_at_call 179;refine (hlayout_any _).mono ?_;rintro e w' hr;obtain ⟨sf,rfl,s1,rfl,HF⟩:=hr.over;clear hr) | (go_at_call 173;refine Hid.out ?_))
 refine Lib.hid ?_
 refine (split_any hnL _ x _ _ _ HS (by decide) HF.out).mono ?_
 rintro e w' hr
 obtain ⟨sv,rfl,s2,rfl,HU⟩:=hr.over
 clear hr HF
 have HX:=Lib.hid (ext_over s2 (ext_over s1 (ext_alloc (.cells #[.int .i64 0,.int .i64 0,.int .i64 0] 107) (ext_refl w))))
 have HR:Hid (Made w w.heap.size #[.int .i64 0,.int .i64 0,.int .i64 0] 107 (over (over (w.alloc (.cells #[.int .i64 0,.int .i64 0,.int .i64 0] 107)) s1) s2)):=Lib.hid (((Made.mk #[.int .i64 0,.int .i64 0,.int .i64 0] 107 (ext_refl w)).over s1).over s2)
 generalize over (over (w.alloc (.cells #[.int .i64 0,.int .i64 0,.int .i64 0] 107)) s1) s2 = X at HX HR HU ⊢
 generalize hbR:w.heap.size = bR at HR ⊢
 have lR:=hp_lt HR.out.1
 have fR:∀ o,X.frozen? ⟨bR,o,none⟩ = false:=fun _ => free_at HR.out.1
 have r0:=cell_at (o:=0) HR.out.1 rfl
 have r1:=cell_at (o:=1) HR.out.1 rfl
 have r2:=cell_at (o:=2) HR.out.1 rfl
 clear HU
 go_wp2
 have HE9:=Lib.hid (ext_set (p:=⟨bR,2,none⟩) (.int .i64 0) HR.out.2 (ext_set (p:=⟨bR,1,none⟩) (.int .i64 0) HR.out.2 (ext_set (p:=⟨bR,0,none⟩) (.int .i64 0) HR.out.2 HX.out)))
 have HR9:Hid (Made w bR #[.int .i64 0,.int .i64 0,.int .i64 0] 107 (((X.setCell ⟨bR,0,none⟩ (.int .i64 0)).setCell ⟨bR,1,none⟩ (.int .i64 0)).setCell ⟨bR,2,none⟩ (.int .i64 0))):=Lib.hid (((HR.out.set 0 (.int .i64 0)).set 1 (.int .i64 0)).set 2 (.int .i64 0))
 generalize (((X.setCell ⟨bR,0,none⟩ (.int .i64 0)).setCell ⟨bR,1,none⟩ (.int .i64 0)).setCell ⟨bR,2,none⟩ (.int .i64 0)) = Z9 at HE9 HR9 ⊢
 have z0:=cell_at (o:=0) HR9.out.1 rfl
 have z1:=cell_at (o:=1) HR9.out.1 rfl
 have z2:=cell_at (o:=2) HR9.out.1 rfl
 simp only [List.getElem_toArray,List.getElem_cons_zero,List.getElem_cons_succ] at z0 z1 z2
 exact bodyPost_ret (v:=.tuple #[hnV ⟨0,0,0⟩,.bool false]) (by simp [results,Tryz.results239,go_sem,z0,z1,z2]) rfl (Ret.mk HE9.out)
theorem hof_odd (x:BitVec 64) (z:Int) (hz:Hid (U x / 288230376151711744 % 64 = z)) (h:U x / 72057594037927936 % 4 = 0) (HO:(z != 42) = true) (w:World):Calls Tryz.prog 239 #[.int .u64 (U x)] w (Ret (.tuple #[hnV ⟨0,0,0⟩,.bool false]) w):=by
 have HS:=Lib.hid (hof_split_yes x h)
 clear h
 go_enter Tryz.func239,Tryz.ntmps239
 go_wp2_with (first | (go_at_call 179;refine (hlayout_any _).mono ?_;rintro e w' hr;obtain ⟨sf,rfl,s1,rfl,HF⟩:=hr.over;clear hr) | (go_at_call 173;refine Hid.out ?_))
 refine Lib.hid ?_
 refine (split_any hnL _ x _ _ _ HS (by decide) HF.out).mono ?_
 rintro e w' hr
 obtain ⟨sv,rfl,s2,rfl,HU⟩:=hr.over
 clear hr HF
 have HX:=Lib.hid (ext_over s2 (ext_over s1 (ext_alloc (.cells #[.int .i64 0,.int .i64 0,.int .i64 0] 107) (ext_refl w))))
 have HR:Hid (Made w w.heap.size #[.int .i64 0,.int .i64 0,.int .i64 0] 107 (over (over (w.alloc (.cells #[.int .i64 0,.int .i64 0,.int .i64 0] 107)) s1) s2)):=Lib.hid (((Made.mk #[.int .i64 0,.int .i64 0,.int .i64 0] 107 (ext_refl w)).over s1).over s2)
 generalize over (over (w.alloc (.cells #[.int .i64 0,.int .i64 0,.int .i64 0] 107)) s1) s2 = X at HX HR HU ⊢
 generalize hbR:w.heap.size = bR at HR ⊢
 have lR:=hp_lt HR.out.1
 have fR:∀ o,X.frozen? ⟨bR,o,none⟩ = false:=fun _ => free_at HR.out.1
 have r0:=cell_at (o:=0) HR.out.1 rfl
 have r1:=cell_at (o:=1) HR.out.1 rfl
 have r2:=cell_at (o:=2) HR.out.1 rfl
 obtain ⟨b,off,cap,rfl,hb,c0,c1,c2,c3⟩:=hof_cells HU.out
 clear HU
 rw [hz.out] at c3
 clear hz
 clear c0 c1 c2
 go_wp2
 have HE9:=Lib.hid (ext_set (p:=⟨bR,2,none⟩) (.int .i64 0) HR.out.2 (ext_set (p:=⟨bR,1,none⟩) (.int .i64 0) HR.out.2 (ext_set (p:=⟨bR,0,none⟩) (.int .i64 0) HR.out.2 HX.out)))
 have HR9:Hid (Made w bR #[.int .i64 0,.int .i64 0,.int .i64 0] 107 (((X.setCell ⟨bR,0,none⟩ (.int .i64 0)).setCell ⟨bR,1,none⟩ (.int .i64 0)).setCell ⟨bR,2,none⟩ (.int .i64 0))):=Lib.hid (((HR.out.set 0 (.int .i64 0)).set 1 (.int .i64 0)).set 2 (.int .i64 0))
 generalize (((X.setCell ⟨bR,0,none⟩ (.int .i64 0)).setCell ⟨bR,1,none⟩ (.int .i64 0)).setCell ⟨bR,2,none⟩ (.int .i64 0)) = Z9 at HE9 HR9 ⊢
 have z0:=cell_at (o:=0) HR9.out.1 rfl
 have z1:=cell_at (o:=1) HR9.out.1 rfl
 have z2:=cell_at (o:=2) HR9.out.1 rfl
 simp only [List.getElem_toArray,List.getElem_cons_zero,List.getElem_cons_succ] at z0 z1 z2
 exact bodyPost_ret (v:=.tuple #[hnV ⟨0,0,0⟩,.bool false]) (by simp [results,Tryz.results239,go_sem,z0,z1,z2]) rfl (Ret.mk HE9.out)
theorem hof_yes (x:BitVec 64) (s:Hn) (hs:Hid (s = hnN x)) (hk:Hid s.ok) (hz:Hid (U x / 288230376151711744 % 64 = 42)) (h:U x / 72057594037927936 % 4 = 0) (w:World):Calls Tryz.prog 239 #[.int .u64 (U x)] w (Ret (.tuple #[hnV s,.bool true]) w):=by
 have HS:=Lib.hid (hof_split_yes x h)
 clear h
 go_enter Tryz.func239,Tryz.ntmps239
 go_wp2_with (first | (go_at_call 179;refine (hlayout_any _).mono ?_;rintro e w' hr;obtain ⟨sf,rfl,s1,rfl,HF⟩:=hr.over;clear hr) | (go_at_call 173;refine Hid.out ?_))
 refine Lib.hid ?_
 refine (split_any hnL _ x _ _ _ HS (by decide) HF.out).mono ?_
 rintro e w' hr
 obtain ⟨sv,rfl,s2,rfl,HU⟩:=hr.over
 clear hr HF
 have HX:=Lib.hid (ext_over s2 (ext_over s1 (ext_alloc (.cells #[.int .i64 0,.int .i64 0,.int .i64 0] 107) (ext_refl w))))
 have HR:Hid (Made w w.heap.size #[.int .i64 0,.int .i64 0,.int .i64 0] 107 (over (over (w.alloc (.cells #[.int .i64 0,.int .i64 0,.int .i64 0] 107)) s1) s2)):=Lib.hid (((Made.mk #[.int .i64 0,.int .i64 0,.int .i64 0] 107 (ext_refl w)).over s1).over s2)
 generalize over (over (w.alloc (.cells #[.int .i64 0,.int .i64 0,.int .i64 0] 107)) s1) s2 = X at HX HR HU ⊢
 generalize hbR:w.heap.size = bR at HR ⊢
 have lR:=hp_lt HR.out.1
 have fR:∀ o,X.frozen? ⟨bR,o,none⟩ = false:=fun _ => free_at HR.out.1
 have r0:=cell_at (o:=0) HR.out.1 rfl
 have r1:=cell_at (o:=1) HR.out.1 rfl
 have r2:=cell_at (o:=2) HR.out.1 rfl
 obtain ⟨b,off,cap,rfl,hb,c0,c1,c2,c3⟩:=hof_cells HU.out
 clear HU
 rw [hz.out] at c3
 clear hz
 rw [← hs.out] at c0 c1 c2
 clear hs
 have ⟨b1,b2,b3,b4,b5,b6⟩:=hk.out
 go_wp2
 refine wp_region_mix (fun y => ∃ s,y = over X s) [(0,[0,1,2,3,4,5,6,7,8,9,10,11,12]),(2,[13]),(2,[14])] (by kernel_rfl) (by kernel_rfl) (over_of (ext_drew (ext_refl X))) ?_
 simp only [pieces,pickL,List.map_cons,List.map_nil,List.getD_cons_zero,List.getD_cons_succ]
 refine mix_reads ?_
 repeat (go_big_quiet_step (fail))
 refine wpQuiet_nil (mix_late ?_)
 have HX1:=Lib.hid (ext_drew HX.out)
 have HR1:=Lib.hid (HR.out.ext (ext_drew (ext_refl X)))
 have lX:=ext_drew (ext_refl X)
 clear r0 r1 r2 fR lR c0 c1 c2 c3 hb
 generalize X.drew = X1 at HX1 HR1 ⊢
 clear lX
 have lR:=hp_lt HR1.out.1
 have fR:∀ o,X1.frozen? ⟨bR,o,none⟩ = false:=fun _ => free_at HR1.out.1
 have r0:=cell_at (o:=0) HR1.out.1 rfl
 have r1:=cell_at (o:=1) HR1.out.1 rfl
 have r2:=cell_at (o:=2) HR1.out.1 rfl
 go_wp2
 refine lateQ_mk (fun _ => True) trivial (mix_late ?_)
 go_wp2
 refine lateQ_mk (fun _ => True) trivial (mix_end ?_)
 go_wp2
 have HE9:=Lib.hid (ext_set (p:=⟨bR,2,none⟩) (.int .i64 s.t) HR.out.2 (ext_set (p:=⟨bR,1,none⟩) (.int .i64 s.g) HR.out.2 (ext_set (p:=⟨bR,0,none⟩) (.int .i64 s.i) HR.out.2 HX1.out)))
 have HR9:Hid (Made w bR #[.int .i64 s.i,.int .i64 s.g,.int .i64 s.t] 107 (((X1.setCell ⟨bR,0,none⟩ (.int .i64 s.i)).setCell ⟨bR,1,none⟩ (.int .i64 s.g)).setCell ⟨bR,2,none⟩ (.int .i64 s.t))):=Lib.hid (((HR1.out.set 0 (.int .i64 s.i)).set 1 (.int .i64 s.g)).set 2 (.int .i64 s.t))
 generalize (((X1.setCell ⟨bR,0,none⟩ (.int .i64 s.i)).setCell ⟨bR,1,none⟩ (.int .i64 s.g)).setCell ⟨bR,2,none⟩ (.int .i64 s.t)) = Z9 at HE9 HR9 ⊢
 have z0:=cell_at (o:=0) HR9.out.1 rfl
 have z1:=cell_at (o:=1) HR9.out.1 rfl
 have z2:=cell_at (o:=2) HR9.out.1 rfl
 simp only [List.getElem_toArray,List.getElem_cons_zero,List.getElem_cons_succ] at z0 z1 z2
 exact bodyPost_ret (v:=.tuple #[hnV s,.bool true]) (by simp [results,Tryz.results239,go_sem,z0,z1,z2]) rfl (Ret.mk HE9.out)
theorem hof_any (x:BitVec 64) (w:World):Calls Tryz.prog 239 #[.int .u64 (U x)] w (Ret (.tuple #[hnV (ofH x),.bool (decide (isH x))]) w):=by
 by_cases h:isH x
 ·rw [ofH_yes x h,decide_eq_true h]
  have h2:=(isH_parts x).1 h
  exact hof_yes x _ (Lib.hid rfl) (Lib.hid (hnN_ok x)) (Lib.hid h2.2) h2.1 w
 ·rw [ofH_no x h,decide_eq_false h]
  by_cases c:U x / 72057594037927936 % 4 = 0
  ·exact hof_odd x _ (Lib.hid rfl) c (bne_iff_ne.2 fun e => h ((isH_parts x).2 ⟨c,e⟩)) w
  ·exact hof_none x c w
theorem mineH_no (x:BitVec 64) (t n:Int) (h:¬ isMine x t n):mineH x t n = ⟨0,0,0⟩:=by unfold mineH;rw [if_neg h]
theorem mineH_yes (x:BitVec 64) (t n:Int) (h:isMine x t n):mineH x t n = hnN x:=by unfold mineH;rw [if_pos h]
theorem hof_is (x:BitVec 64) (s:Hn) (r:Bool) (h:Hid (ofH x = s ∧ decide (isH x) = r)) (w:World):Calls Tryz.prog 239 #[.int .u64 (U x)] w (Ret (.tuple #[hnV s,.bool r]) w):=by
 rw [← h.out.1,← h.out.2]
 exact hof_any x w
theorem mine_none (x:BitVec 64) (s:Hn) (t n:Int) (HO:Hid (ofH x = s ∧ decide (isH x) = false)) (w:World):Calls Tryz.prog 196 #[.int .u64 (U x),.int .i64 t,.int .i64 n] w (Ret (.tuple #[hnV ⟨0,0,0⟩,.bool false]) w):=by
 go_enter Tryz.func196,Tryz.ntmps196
 go_wp2_with (go_at_call 239;refine (hof_is x s false HO _).mono ?_;rintro e w' hr;obtain ⟨rfl,s1,rfl⟩:=hr.over;clear hr)
 have HE9:=Lib.hid (ext_alloc (.cells #[.int .i64 s.i,.int .i64 s.g,.int .i64 s.t] 107) (ext_set (p:=⟨w.heap.size,2,none⟩) (.int .i64 0) (Nat.le_refl _) (ext_set (p:=⟨w.heap.size,1,none⟩) (.int .i64 0) (Nat.le_refl _) (ext_set (p:=⟨w.heap.size,0,none⟩) (.int .i64 0) (Nat.le_refl _) (ext_over s1 (ext_alloc (.cells #[.int .i64 0,.int .i64 0,.int .i64 0] 107) (ext_refl w)))))))
 have HR9:Hid (Made w w.heap.size #[.int .i64 0,.int .i64 0,.int .i64 0] 107 (((((over (w.alloc (.cells #[.int .i64 0,.int .i64 0,.int .i64 0] 107)) s1).setCell ⟨w.heap.size,0,none⟩ (.int .i64 0)).setCell ⟨w.heap.size,1,none⟩ (.int .i64 0)).setCell ⟨w.heap.size,2,none⟩ (.int .i64 0)).alloc (.cells #[.int .i64 s.i,.int .i64 s.g,.int .i64 s.t] 107))):=Lib.hid ((((((Made.mk #[.int .i64 0,.int .i64 0,.int .i64 0] 107 (ext_refl w)).over s1).set 0 (.int .i64 0)).set 1 (.int .i64 0)).set 2 (.int .i64 0)).alloc (.cells #[.int .i64 s.i,.int .i64 s.g,.int .i64 s.t] 107))
 generalize (((((over (w.alloc (.cells #[.int .i64 0,.int .i64 0,.int .i64 0] 107)) s1).setCell ⟨w.heap.size,0,none⟩ (.int .i64 0)).setCell ⟨w.heap.size,1,none⟩ (.int .i64 0)).setCell ⟨w.heap.size,2,none⟩ (.int .i64 0)).alloc (.cells #[.int .i64 s.i,.int .i64 s.g,.int .i64 s.t] 107)) = Z9 at HE9 HR9 ⊢
 have z0:=cell_at (o:=0) HR9.out.1 rfl
 have z1:=cell_at (o:=1) HR9.out.1 rfl
 have z2:=cell_at (o:=2) HR9.out.1 rfl
 simp only [List.getElem_toArray,List.getElem_cons_zero,List.getElem_cons_succ] at z0 z1 z2
 exact bodyPost_ret (v:=.tuple #[hnV ⟨0,0,0⟩,.bool false]) (by simp [results,Tryz.results196,go_sem,z0,z1,z2]) rfl (Ret.mk HE9.out)
theorem mine_other (x:BitVec 64) (s:Hn) (t n:Int) (HO:Hid (ofH x = s ∧ decide (isH x) = true)) (k1:(s.t != t) = true) (w:World):Calls Tryz.prog 196 #[.int .u64 (U x),.int .i64 t,.int .i64 n] w (Ret (.tuple #[hnV ⟨0,0,0⟩,.bool false]) w):=by
 go_enter Tryz.func196,Tryz.ntmps196
 go_wp2_with (go_at_call 239;refine (hof_is x s true HO _).mono ?_;rintro e w' hr;obtain ⟨rfl,s1,rfl⟩:=hr.over;clear hr)
 have HE9:=Lib.hid (ext_alloc (.cells #[.int .i64 s.i,.int .i64 s.g,.int .i64 s.t] 107) (ext_set (p:=⟨w.heap.size,2,none⟩) (.int .i64 0) (Nat.le_refl _) (ext_set (p:=⟨w.heap.size,1,none⟩) (.int .i64 0) (Nat.le_refl _) (ext_set (p:=⟨w.heap.size,0,none⟩) (.int .i64 0) (Nat.le_refl _) (ext_over s1 (ext_alloc (.cells #[.int .i64 0,.int .i64 0,.int .i64 0] 107) (ext_refl w)))))))
 have HR9:Hid (Made w w.heap.size #[.int .i64 0,.int .i64 0,.int .i64 0] 107 (((((over (w.alloc (.cells #[.int .i64 0,.int .i64 0,.int .i64 0] 107)) s1).setCell ⟨w.heap.size,0,none⟩ (.int .i64 0)).setCell ⟨w.heap.size,1,none⟩ (.int .i64 0)).setCell ⟨w.heap.size,2,none⟩ (.int .i64 0)).alloc (.cells #[.int .i64 s.i,.int .i64 s.g,.int .i64 s.t] 107))):=Lib.hid ((((((Made.mk #[.int .i64 0,.int .i64 0,.int .i64 0] 107 (ext_refl w)).over s1).set 0 (.int .i64 0)).set 1 (.int .i64 0)).set 2 (.int .i64 0)).alloc (.cells #[.int .i64 s.i,.int .i64 s.g,.int .i64 s.t] 107))
 generalize (((((over (w.alloc (.cells #[.int .i64 0,.int .i64 0,.int .i64 0] 107)) s1).setCell ⟨w.heap.size,0,none⟩ (.int .i64 0)).setCell ⟨w.heap.size,1,none⟩ (.int .i64 0)).setCell ⟨w.heap.size,2,none⟩ (.int .i64 0)).alloc (.cells #[.int .i64 s.i,.int .i64 s.g,.int .i64 s.t] 107)) = Z9 at HE9 HR9 ⊢
 have z0:=cell_at (o:=0) HR9.out.1 rfl
 have z1:=cell_at (o:=1) HR9.out.1 rfl
 have z2:=cell_at (o:=2) HR9.out.1 rfl
 simp only [List.getElem_toArray,List.getElem_cons_zero,List.getElem_cons_succ] at z0 z1 z2
 exact bodyPost_ret (v:=.tuple #[hnV ⟨0,0,0⟩,.bool false]) (by simp [results,Tryz.results196,go_sem,z0,z1,z2]) rfl (Ret.mk HE9.out)
theorem mine_far (x:BitVec 64) (s:Hn) (t n:Int) (HO:Hid (ofH x = s ∧ decide (isH x) = true)) (k1:(s.t != t) = false) (k2:n ≤ s.i) (w:World):Calls Tryz.prog 196 #[.int .u64 (U x),.int .i64 t,.int .i64 n] w (Ret (.tuple #[hnV ⟨0,0,0⟩,.bool false]) w):=by
 go_enter Tryz.func196,Tryz.ntmps196
 go_wp2_with (go_at_call 239;refine (hof_is x s true HO _).mono ?_;rintro e w' hr;obtain ⟨rfl,s1,rfl⟩:=hr.over;clear hr)
 have HE9:=Lib.hid (ext_alloc (.cells #[.int .i64 s.i,.int .i64 s.g,.int .i64 s.t] 107) (ext_set (p:=⟨w.heap.size,2,none⟩) (.int .i64 0) (Nat.le_refl _) (ext_set (p:=⟨w.heap.size,1,none⟩) (.int .i64 0) (Nat.le_refl _) (ext_set (p:=⟨w.heap.size,0,none⟩) (.int .i64 0) (Nat.le_refl _) (ext_over s1 (ext_alloc (.cells #[.int .i64 0,.int .i64 0,.int .i64 0] 107) (ext_refl w)))))))
 have HR9:Hid (Made w w.heap.size #[.int .i64 0,.int .i64 0,.int .i64 0] 107 (((((over (w.alloc (.cells #[.int .i64 0,.int .i64 0,.int .i64 0] 107)) s1).setCell ⟨w.heap.size,0,none⟩ (.int .i64 0)).setCell ⟨w.heap.size,1,none⟩ (.int .i64 0)).setCell ⟨w.heap.size,2,none⟩ (.int .i64 0)).alloc (.cells #[.int .i64 s.i,.int .i64 s.g,.int .i64 s.t] 107))):=Lib.hid ((((((Made.mk #[.int .i64 0,.int .i64 0,.int .i64 0] 107 (ext_refl w)).over s1).set 0 (.int .i64 0)).set 1 (.int .i64 0)).set 2 (.int .i64 0)).alloc (.cells #[.int .i64 s.i,.int .i64 s.g,.int .i64 s.t] 107))
 generalize (((((over (w.alloc (.cells #[.int .i64 0,.int .i64 0,.int .i64 0] 107)) s1).setCell ⟨w.heap.size,0,none⟩ (.int .i64 0)).setCell ⟨w.heap.size,1,none⟩ (.int .i64 0)).setCell ⟨w.heap.size,2,none⟩ (.int .i64 0)).alloc (.cells #[.int .i64 s.i,.int .i64 s.g,.int .i64 s.t] 107)) = Z9 at HE9 HR9 ⊢
 have z0:=cell_at (o:=0) HR9.out.1 rfl
 have z1:=cell_at (o:=1) HR9.out.1 rfl
 have z2:=cell_at (o:=2) HR9.out.1 rfl
 simp only [List.getElem_toArray,List.getElem_cons_zero,List.getElem_cons_succ] at z0 z1 z2
 exact bodyPost_ret (v:=.tuple #[hnV ⟨0,0,0⟩,.bool false]) (by simp [results,Tryz.results196,go_sem,z0,z1,z2]) rfl (Ret.mk HE9.out)
theorem mine_yes (x:BitVec 64) (s:Hn) (t n:Int) (HO:Hid (ofH x = s ∧ decide (isH x) = true)) (k1:(s.t != t) = false) (k2:decide (n ≤ s.i) = false) (w:World):Calls Tryz.prog 196 #[.int .u64 (U x),.int .i64 t,.int .i64 n] w (Ret (.tuple #[hnV s,.bool true]) w):=by
 go_enter Tryz.func196,Tryz.ntmps196
 go_wp2_with (go_at_call 239;refine (hof_is x s true HO _).mono ?_;rintro e w' hr;obtain ⟨rfl,s1,rfl⟩:=hr.over;clear hr)
 have HE9:=Lib.hid (ext_alloc (.cells #[.int .i64 s.i,.int .i64 s.g,.int .i64 s.t] 107) (ext_set (p:=⟨w.heap.size,2,none⟩) (.int .i64 s.t) (Nat.le_refl _) (ext_set (p:=⟨w.heap.size,1,none⟩) (.int .i64 s.g) (Nat.le_refl _) (ext_set (p:=⟨w.heap.size,0,none⟩) (.int .i64 s.i) (Nat.le_refl _) (ext_over s1 (ext_alloc (.cells #[.int .i64 0,.int .i64 0,.int .i64 0] 107) (ext_refl w)))))))
 have HR9:Hid (Made w w.heap.size #[.int .i64 s.i,.int .i64 s.g,.int .i64 s.t] 107 (((((over (w.alloc (.cells #[.int .i64 0,.int .i64 0,.int .i64 0] 107)) s1).setCell ⟨w.heap.size,0,none⟩ (.int .i64 s.i)).setCell ⟨w.heap.size,1,none⟩ (.int .i64 s.g)).setCell ⟨w.heap.size,2,none⟩ (.int .i64 s.t)).alloc (.cells #[.int .i64 s.i,.int .i64 s.g,.int .i64 s.t] 107))):=Lib.hid ((((((Made.mk #[.int .i64 0,.int .i64 0,.int .i64 0] 107 (ext_refl w)).over s1).set 0 (.int .i64 s.i)).set 1 (.int .i64 s.g)).set 2 (.int .i64 s.t)).alloc (.cells #[.int .i64 s.i,.int .i64 s.g,.int .i64 s.t] 107))
 generalize (((((over (w.alloc (.cells #[.int .i64 0,.int .i64 0,.int .i64 0] 107)) s1).setCell ⟨w.heap.size,0,none⟩ (.int .i64 s.i)).setCell ⟨w.heap.size,1,none⟩ (.int .i64 s.g)).setCell ⟨w.heap.size,2,none⟩ (.int .i64 s.t)).alloc (.cells #[.int .i64 s.i,.int .i64 s.g,.int .i64 s.t] 107)) = Z9 at HE9 HR9 ⊢
 have z0:=cell_at (o:=0) HR9.out.1 rfl
 have z1:=cell_at (o:=1) HR9.out.1 rfl
 have z2:=cell_at (o:=2) HR9.out.1 rfl
 simp only [List.getElem_toArray,List.getElem_cons_zero,List.getElem_cons_succ] at z0 z1 z2
 exact bodyPost_ret (v:=.tuple #[hnV s,.bool true]) (by simp [results,Tryz.results196,go_sem,z0,z1,z2]) rfl (Ret.mk HE9.out)
theorem mine_any (x:BitVec 64) (t n:Int) (w:World):Calls Tryz.prog 196 #[.int .u64 (U x),.int .i64 t,.int .i64 n] w (Ret (.tuple #[hnV (mineH x t n),.bool (decide (isMine x t n))]) w):=by
 by_cases h:isH x
 ·have e:=ofH_yes x h
  by_cases c1:(hnN x).t = t
  ·by_cases c2:(hnN x).i < n
   ·have hm:isMine x t n:=⟨h,c1,c2⟩
    rw [mineH_yes x t n hm,decide_eq_true hm]
    exact mine_yes x _ t n (Lib.hid ⟨e,decide_eq_true h⟩) (bne_eq_false_iff_eq.2 c1) (decide_eq_false (by omega)) w
   ·have hm:¬ isMine x t n:=fun k => c2 k.2.2
    rw [mineH_no x t n hm,decide_eq_false hm]
    exact mine_far x _ t n (Lib.hid ⟨e,decide_eq_true h⟩) (bne_eq_false_iff_eq.2 c1) (by omega) w
  ·have hm:¬ isMine x t n:=fun k => c1 k.2.1
   rw [mineH_no x t n hm,decide_eq_false hm]
   exact mine_other x _ t n (Lib.hid ⟨e,decide_eq_true h⟩) (bne_iff_ne.2 c1) w
 ·have hm:¬ isMine x t n:=fun k => h k.1
  rw [mineH_no x t n hm,decide_eq_false hm]
  exact mine_none x _ t n (Lib.hid ⟨rfl,decide_eq_false h⟩) w
end Go.Proofs.YthjklbonebnekaaGreat

