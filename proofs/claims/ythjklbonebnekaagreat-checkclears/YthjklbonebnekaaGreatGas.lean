/-
  What the calls of a state's Word and Of come to. Conditions: those of each theorem.
-/
import Derived.Test.YthjklbonebnekaaGreatGap
import Derived.Test.YthjklbonebnekaaGreatGar
set_option maxRecDepth 8000
set_option maxHeartbeats 4000000
namespace Go.Proofs.YthjklbonebnekaaGreat
open Go Go.RowKit
abbrev fC:Array Value:=#[.int .i64 0,.int .i64 30,.int .i64 30,.int .i64 2,.int .i64 32,.int .i64 2]
abbrev nC (s:St):Array Value:=#[.int .u64 (U (bvI s.g)),.int .u64 (U (bvI s.m)),.int .u64 (U (bvI s.k))]
theorem made_fs {Y Z:World} {b:Nat} {t:TypeId} (h:Made Y b fC t Z):Fs Z (.slice (some ⟨b,0,none⟩) 3 3) stL:=by
 refine ⟨_,3,rfl,Nat.le_refl _,fun _ => ⟨b,0,rfl,hp_lt h.1,fun i hi => ?_⟩⟩
 have hi':i < 3:=hi
 have e:i = 0 ∨ i = 1 ∨ i = 2:=by omega
 rcases e with rfl | rfl | rfl
 ·exact ⟨cell_at (o:=0) h.1 rfl,cell_at (o:=1) h.1 rfl⟩
 ·exact ⟨cell_at (o:=2) h.1 rfl,cell_at (o:=3) h.1 rfl⟩
 ·exact ⟨cell_at (o:=4) h.1 rfl,cell_at (o:=5) h.1 rfl⟩
theorem made_us {Y Z:World} {b:Nat} {t:TypeId} {s:St} (h:Made Y b (nC s) t Z):Us Z (.slice (some ⟨b,0,none⟩) 3 3) s.ns:=by
 refine ⟨_,3,rfl,Nat.le_refl _,fun _ => ⟨b,0,rfl,hp_lt h.1,fun i hi => ?_⟩⟩
 have hi':i < 3:=hi
 have e:i = 0 ∨ i = 1 ∨ i = 2:=by omega
 rcases e with rfl | rfl | rfl
 ·exact cell_at (o:=0) h.1 rfl
 ·exact cell_at (o:=1) h.1 rfl
 ·exact cell_at (o:=2) h.1 rfl
theorem st_packs (s:St) (h:s.ok):PackSpec stL s.ns s.word 0:=⟨fun _ => ⟨(st_pack s h).symm,rfl⟩,fun hn => absurd (st_fit s h) hn⟩
theorem word_none (s:St) (h:¬ s.ok) (w:World):Calls Tryz.prog 22 #[stV s] w (Ret (.int .u64 (U s.word)) w):=by
 rw [word_no s h,U_0]
 go_enter Tryz.func22,Tryz.ntmps22
 go_wp2_with (go_at_call 63;refine (sformed_no _ h _).mono ?_;rintro e w' hr;obtain ⟨rfl,s0,rfl⟩:=hr.over;clear hr)
 go_ret
 exact Ret.mk (by repeat (first | exact ext_refl _ | apply ext_over | apply ext_alloc | (refine ext_set _ ?_ ?_;exact Nat.le_refl _)))
theorem word_yes (s:St) (h:s.ok) (w:World):Calls Tryz.prog 22 #[stV s] w (Ret (.int .u64 (U s.word)) w):=by
 go_enter Tryz.func22,Tryz.ntmps22
 go_wp2_with (go_at_call 63;refine (sformed_yes _ h _).mono ?_;rintro e w' hr;obtain ⟨rfl,s0,rfl⟩:=hr.over;clear hr)
 rename_i K hK
 have HX:=Lib.hid (ext_over s0 (ext_alloc (.cells #[.int .i64 s.g,.int .i64 s.m,.int .i64 s.k] 56) (ext_refl w)))
 obtain ⟨bp,hbp⟩ : ∃ bp,bp = w.heap.size:=⟨_,rfl⟩
 have HB:Hid ((over (w.alloc (.cells #[.int .i64 s.g,.int .i64 s.m,.int .i64 s.k] 56)) s0).heap[bp]? = some (.cells #[.int .i64 s.g,.int .i64 s.m,.int .i64 s.k] 56 (0,0))):=Lib.hid (by subst hbp;rw [(over_below _ _).block _ (by simp)];exact hp_at _ _ _ rfl)
 rw [← hbp]
 generalize over (w.alloc (.cells #[.int .i64 s.g,.int .i64 s.m,.int .i64 s.k] 56)) s0 = Y at HX HB ⊢
 clear hbp
 have lY:=hp_lt HB.out
 have c0:=cell_at (o:=0) HB.out rfl
 have c1:=cell_at (o:=1) HB.out rfl
 have c2:=cell_at (o:=2) HB.out rfl
 have HREST:∀ bf bn Z,Ext Y Z → Made Y bf fC 169 Z → Made Y bn (nC s) 171 Z → K { tmps:=#[stV s,.pointer (some ⟨bp,0,none⟩),.int .u64 0,.pointer (some ⟨bf,0,none⟩),.pointer (some ⟨bn,0,none⟩),undef,undef,.agg #[.int .i64 s.g,.int .i64 s.m,.int .i64 s.k],.bool true,.bool false,layV,.agg #[.int .i64 s.g,.int .i64 s.m,.int .i64 s.k],numV s,undef,undef,undef,undef,undef,undef,undef],defers:=[] } Z:=by
  intro bf bn Z he hf hn
  have HE:=Lib.hid he
  have HF:=Lib.hid (made_fs hf)
  have HN:=Lib.hid (made_us hn)
  have HP:=Lib.hid (st_packs s h)
  have l1:=hp_lt hf.1
  have l2:=hp_lt hn.1
  clear he hf hn c0 c1 c2 h
  apply hK
  clear hK
  refine wp_seq ?_
  refine wp_region_over (by kernel_rfl) (by kernel_rfl) ?_
  repeat (go_big_quiet_step ((go_at_call 82;exact over_call (pack_any stL s.ns _ _ _ _ _ HP (by decide) (HF.out.over _) (HN.out.over _)))))
  refine wpQuiet_nil ?_
  intro _ hw'
  obtain ⟨s3,hw''⟩:=hw'
  subst hw''
  go_wp2
  go_ret
  exact Ret.mk (ext_trans HX.out (ext_over _ HE.out))
 clear hK
 refine wp_region_ways (fun x => ∃ s,x = over Y s) (by kernel_rfl) (over_of (ext_drew (ext_refl Y))) ?_
 refine ways_reads [1] (by kernel_rfl) ?_
 simp only [pickL,List.map_cons,List.map_nil,List.getD_cons_zero,List.getD_cons_succ]
 repeat (go_big_quiet_step (fail))
 refine wpQuiet_nil ?_
 have HE:=Lib.hid (ext_drew (ext_refl Y))
 generalize Y.drew = Z0 at HE ⊢
 refine ways_fork 0 (by kernel_rfl) ?_ (ways_fork 3 (by kernel_rfl) ?_ (ways_act 4 (by kernel_rfl) ?_))
 ·simp only [pickL,List.map_cons,List.map_nil,List.getD_cons_zero]
  go_wp2_with (go_at_call 80;refine (slayout_any _).mono ?_;rintro e w' hr;obtain ⟨rfl,s1,rfl⟩:=hr.over;clear hr)
  have HE':=Lib.hid (ext_over s1 HE.out)
  refine mixQ_mk (over_of HE'.out) ?_
  generalize over Z0 s1 = Z1 at HE' ⊢
  clear HE
  have HE:=HE'
  clear HE'
  refine ways_fork 2 (by kernel_rfl) ?_ (ways_fork 3 (by kernel_rfl) ?_ (ways_act 4 (by kernel_rfl) ?_))
  ·simp only [pickL,List.map_cons,List.map_nil,List.getD_cons_zero,List.getD_cons_succ]
   go_wp2_with (go_at_call 81;refine (numbers_any _ h _).mono ?_;rintro e w' hr;obtain ⟨rfl,s1,rfl⟩:=hr.over;clear hr)
   have HE':=Lib.hid (ext_over s1 HE.out)
   refine mixQ_mk (over_of HE'.out) ?_
   generalize over Z1 s1 = Z2 at HE' ⊢
   clear HE
   have HE:=HE'
   clear HE'
   refine ways_fork 3 (by kernel_rfl) ?_ (ways_act 4 (by kernel_rfl) ?_)
   ·simp only [pickL,List.map_cons,List.map_nil,List.getD_cons_zero,List.getD_cons_succ]
    go_wp2
    have HE':=Lib.hid (ext_alloc (.cells #[.int .i64 0,.int .i64 0,.int .i64 0,.int .i64 0,.int .i64 0,.int .i64 0] 169) HE.out)
    have HF':=Lib.hid (Made.mk #[.int .i64 0,.int .i64 0,.int .i64 0,.int .i64 0,.int .i64 0,.int .i64 0] 169 HE.out)
    refine mixQ_mk (over_of HE'.out) ?_
    generalize Z2.alloc (.cells #[.int .i64 0,.int .i64 0,.int .i64 0,.int .i64 0,.int .i64 0,.int .i64 0] 169) = Z3 at HE' HF' ⊢
    generalize Z2.heap.size = bf at HF' ⊢
    clear HE
    have HE:=HE'
    clear HE'
    have HF:=HF'
    clear HF'
    refine ways_act 4 (by kernel_rfl) ?_
    simp only [pickL,List.map_cons,List.map_nil,List.getD_cons_zero,List.getD_cons_succ]
    go_wp2
    have HE':=Lib.hid (ext_alloc (.cells #[.int .u64 0,.int .u64 0,.int .u64 0] 171) HE.out)
    have HN':=Lib.hid (Made.mk #[.int .u64 0,.int .u64 0,.int .u64 0] 171 HE.out)
    have hne:=HF.out.ne
    have HF':=Lib.hid (HF.out.alloc (.cells #[.int .u64 0,.int .u64 0,.int .u64 0] 171))
    refine mixQ_mk (over_of HE'.out) ?_
    generalize Z3.alloc (.cells #[.int .u64 0,.int .u64 0,.int .u64 0] 171) = Z4 at HE' HF' HN' ⊢
    generalize Z3.heap.size = bn at HN' hne ⊢
    have ne1:bf ≠ bn:=hne
    clear hne
    have ne2:=Ne.symm ne1
    clear HE HF
    have HE:=HE'
    clear HE'
    have HF:=HF'
    clear HF'
    have HN:=HN'
    clear HN'
    refine ways_act 5 (by kernel_rfl) ?_
    simp only [pickL,List.map_cons,List.map_nil,List.getD_cons_zero,List.getD_cons_succ]
    have fz:∀ o,Z4.frozen? ⟨bf,o,none⟩ = false:=fun _ => free_at HF.out.1
    have q0:=cell_at (o:=0) HF.out.1 rfl
    have q1:=cell_at (o:=1) HF.out.1 rfl
    have q2:=cell_at (o:=2) HF.out.1 rfl
    have q3:=cell_at (o:=3) HF.out.1 rfl
    have q4:=cell_at (o:=4) HF.out.1 rfl
    have q5:=cell_at (o:=5) HF.out.1 rfl
    go_wp2
    have HE':=Lib.hid (ext_set (p:=⟨bf,5,none⟩) (.int .i64 2) HF.out.2 (ext_set (p:=⟨bf,4,none⟩) (.int .i64 32) HF.out.2 (ext_set (p:=⟨bf,3,none⟩) (.int .i64 2) HF.out.2 (ext_set (p:=⟨bf,2,none⟩) (.int .i64 30) HF.out.2 (ext_set (p:=⟨bf,1,none⟩) (.int .i64 30) HF.out.2 (ext_set (p:=⟨bf,0,none⟩) (.int .i64 0) HF.out.2 HE.out))))))
    have HF':=Lib.hid ((((((HF.out.set 0 (.int .i64 0)).set 1 (.int .i64 30)).set 2 (.int .i64 30)).set 3 (.int .i64 2)).set 4 (.int .i64 32)).set 5 (.int .i64 2))
    have HN':=Lib.hid ((((((HN.out.far ne2 0 (.int .i64 0)).far ne2 1 (.int .i64 30)).far ne2 2 (.int .i64 30)).far ne2 3 (.int .i64 2)).far ne2 4 (.int .i64 32)).far ne2 5 (.int .i64 2))
    refine mixQ_mk (over_of HE'.out) (ways_act 6 (by kernel_rfl) ?_)
    generalize ((((((Z4.setCell ⟨bf,0,none⟩ (.int .i64 0)).setCell ⟨bf,1,none⟩ (.int .i64 30)).setCell ⟨bf,2,none⟩ (.int .i64 30)).setCell ⟨bf,3,none⟩ (.int .i64 2)).setCell ⟨bf,4,none⟩ (.int .i64 32)).setCell ⟨bf,5,none⟩ (.int .i64 2)) = X1 at HE' HF' HN' ⊢
    clear HE HF HN fz q0 q1 q2 q3 q4 q5
    simp only [pickL,List.map_cons,List.map_nil,List.getD_cons_zero,List.getD_cons_succ]
    have fz:∀ o,X1.frozen? ⟨bn,o,none⟩ = false:=fun _ => free_at HN'.out.1
    have q0:=cell_at (o:=0) HN'.out.1 rfl
    have q1:=cell_at (o:=1) HN'.out.1 rfl
    have q2:=cell_at (o:=2) HN'.out.1 rfl
    go_wp2
    have HE:=Lib.hid (ext_set (p:=⟨bn,2,none⟩) (.int .u64 (U (bvI s.k))) HN'.out.2 (ext_set (p:=⟨bn,1,none⟩) (.int .u64 (U (bvI s.m))) HN'.out.2 (ext_set (p:=⟨bn,0,none⟩) (.int .u64 (U (bvI s.g))) HN'.out.2 HE'.out)))
    have HF:=Lib.hid (((HF'.out.far ne1 0 (.int .u64 (U (bvI s.g)))).far ne1 1 (.int .u64 (U (bvI s.m)))).far ne1 2 (.int .u64 (U (bvI s.k))))
    have HN:=Lib.hid (((HN'.out.set 0 (.int .u64 (U (bvI s.g)))).set 1 (.int .u64 (U (bvI s.m)))).set 2 (.int .u64 (U (bvI s.k))))
    refine mixQ_mk (over_of HE.out) (ways_end (by kernel_rfl) ?_)
    exact HREST bf bn _ HE.out HF.out HN.out
   ·simp only [pickL,List.map_cons,List.map_nil,List.getD_cons_zero,List.getD_cons_succ]
    go_wp2
    have HE':=Lib.hid (ext_alloc (.cells #[.int .u64 0,.int .u64 0,.int .u64 0] 171) HE.out)
    have HN':=Lib.hid (Made.mk #[.int .u64 0,.int .u64 0,.int .u64 0] 171 HE.out)
    refine mixQ_mk (over_of HE'.out) ?_
    generalize Z2.alloc (.cells #[.int .u64 0,.int .u64 0,.int .u64 0] 171) = Z3 at HE' HN' ⊢
    generalize Z2.heap.size = bn at HN' ⊢
    clear HE
    have HE:=HE'
    clear HE'
    have HN:=HN'
    clear HN'
    refine ways_act 3 (by kernel_rfl) ?_
    simp only [pickL,List.map_cons,List.map_nil,List.getD_cons_zero,List.getD_cons_succ]
    go_wp2
    have HE':=Lib.hid (ext_alloc (.cells #[.int .i64 0,.int .i64 0,.int .i64 0,.int .i64 0,.int .i64 0,.int .i64 0] 169) HE.out)
    have HF':=Lib.hid (Made.mk #[.int .i64 0,.int .i64 0,.int .i64 0,.int .i64 0,.int .i64 0,.int .i64 0] 169 HE.out)
    have hne:=HN.out.ne
    have HN':=Lib.hid (HN.out.alloc (.cells #[.int .i64 0,.int .i64 0,.int .i64 0,.int .i64 0,.int .i64 0,.int .i64 0] 169))
    refine mixQ_mk (over_of HE'.out) ?_
    generalize Z3.alloc (.cells #[.int .i64 0,.int .i64 0,.int .i64 0,.int .i64 0,.int .i64 0,.int .i64 0] 169) = Z4 at HE' HN' HF' ⊢
    generalize Z3.heap.size = bf at HF' hne ⊢
    have ne1:bf ≠ bn:=Ne.symm hne
    clear hne
    have ne2:=Ne.symm ne1
    clear HE HN
    have HE:=HE'
    clear HE'
    have HN:=HN'
    clear HN'
    have HF:=HF'
    clear HF'
    refine ways_act 5 (by kernel_rfl) ?_
    simp only [pickL,List.map_cons,List.map_nil,List.getD_cons_zero,List.getD_cons_succ]
    have fz:∀ o,Z4.frozen? ⟨bf,o,none⟩ = false:=fun _ => free_at HF.out.1
    have q0:=cell_at (o:=0) HF.out.1 rfl
    have q1:=cell_at (o:=1) HF.out.1 rfl
    have q2:=cell_at (o:=2) HF.out.1 rfl
    have q3:=cell_at (o:=3) HF.out.1 rfl
    have q4:=cell_at (o:=4) HF.out.1 rfl
    have q5:=cell_at (o:=5) HF.out.1 rfl
    go_wp2
    have HE':=Lib.hid (ext_set (p:=⟨bf,5,none⟩) (.int .i64 2) HF.out.2 (ext_set (p:=⟨bf,4,none⟩) (.int .i64 32) HF.out.2 (ext_set (p:=⟨bf,3,none⟩) (.int .i64 2) HF.out.2 (ext_set (p:=⟨bf,2,none⟩) (.int .i64 30) HF.out.2 (ext_set (p:=⟨bf,1,none⟩) (.int .i64 30) HF.out.2 (ext_set (p:=⟨bf,0,none⟩) (.int .i64 0) HF.out.2 HE.out))))))
    have HF':=Lib.hid ((((((HF.out.set 0 (.int .i64 0)).set 1 (.int .i64 30)).set 2 (.int .i64 30)).set 3 (.int .i64 2)).set 4 (.int .i64 32)).set 5 (.int .i64 2))
    have HN':=Lib.hid ((((((HN.out.far ne2 0 (.int .i64 0)).far ne2 1 (.int .i64 30)).far ne2 2 (.int .i64 30)).far ne2 3 (.int .i64 2)).far ne2 4 (.int .i64 32)).far ne2 5 (.int .i64 2))
    refine mixQ_mk (over_of HE'.out) (ways_act 6 (by kernel_rfl) ?_)
    generalize ((((((Z4.setCell ⟨bf,0,none⟩ (.int .i64 0)).setCell ⟨bf,1,none⟩ (.int .i64 30)).setCell ⟨bf,2,none⟩ (.int .i64 30)).setCell ⟨bf,3,none⟩ (.int .i64 2)).setCell ⟨bf,4,none⟩ (.int .i64 32)).setCell ⟨bf,5,none⟩ (.int .i64 2)) = X1 at HE' HF' HN' ⊢
    clear HE HF HN fz q0 q1 q2 q3 q4 q5
    simp only [pickL,List.map_cons,List.map_nil,List.getD_cons_zero,List.getD_cons_succ]
    have fz:∀ o,X1.frozen? ⟨bn,o,none⟩ = false:=fun _ => free_at HN'.out.1
    have q0:=cell_at (o:=0) HN'.out.1 rfl
    have q1:=cell_at (o:=1) HN'.out.1 rfl
    have q2:=cell_at (o:=2) HN'.out.1 rfl
    go_wp2
    have HE:=Lib.hid (ext_set (p:=⟨bn,2,none⟩) (.int .u64 (U (bvI s.k))) HN'.out.2 (ext_set (p:=⟨bn,1,none⟩) (.int .u64 (U (bvI s.m))) HN'.out.2 (ext_set (p:=⟨bn,0,none⟩) (.int .u64 (U (bvI s.g))) HN'.out.2 HE'.out)))
    have HF:=Lib.hid (((HF'.out.far ne1 0 (.int .u64 (U (bvI s.g)))).far ne1 1 (.int .u64 (U (bvI s.m)))).far ne1 2 (.int .u64 (U (bvI s.k))))
    have HN:=Lib.hid (((HN'.out.set 0 (.int .u64 (U (bvI s.g)))).set 1 (.int .u64 (U (bvI s.m)))).set 2 (.int .u64 (U (bvI s.k))))
    refine mixQ_mk (over_of HE.out) (ways_end (by kernel_rfl) ?_)
    exact HREST bf bn _ HE.out HF.out HN.out
  ·simp only [pickL,List.map_cons,List.map_nil,List.getD_cons_zero,List.getD_cons_succ]
   go_wp2
   have HE':=Lib.hid (ext_alloc (.cells #[.int .i64 0,.int .i64 0,.int .i64 0,.int .i64 0,.int .i64 0,.int .i64 0] 169) HE.out)
   have HF':=Lib.hid (Made.mk #[.int .i64 0,.int .i64 0,.int .i64 0,.int .i64 0,.int .i64 0,.int .i64 0] 169 HE.out)
   refine mixQ_mk (over_of HE'.out) ?_
   generalize Z1.alloc (.cells #[.int .i64 0,.int .i64 0,.int .i64 0,.int .i64 0,.int .i64 0,.int .i64 0] 169) = Z2 at HE' HF' ⊢
   generalize Z1.heap.size = bf at HF' ⊢
   clear HE
   have HE:=HE'
   clear HE'
   have HF:=HF'
   clear HF'
   refine ways_fork 2 (by kernel_rfl) ?_ (ways_act 4 (by kernel_rfl) ?_)
   ·simp only [pickL,List.map_cons,List.map_nil,List.getD_cons_zero,List.getD_cons_succ]
    go_wp2_with (go_at_call 81;refine (numbers_any _ h _).mono ?_;rintro e w' hr;obtain ⟨rfl,s1,rfl⟩:=hr.over;clear hr)
    have HE':=Lib.hid (ext_over s1 HE.out)
    have HF':=Lib.hid (HF.out.over s1)
    refine mixQ_mk (over_of HE'.out) ?_
    generalize over Z2 s1 = Z3 at HE' HF' ⊢
    clear HE HF
    have HE:=HE'
    clear HE'
    have HF:=HF'
    clear HF'
    refine ways_act 4 (by kernel_rfl) ?_
    simp only [pickL,List.map_cons,List.map_nil,List.getD_cons_zero,List.getD_cons_succ]
    go_wp2
    have HE':=Lib.hid (ext_alloc (.cells #[.int .u64 0,.int .u64 0,.int .u64 0] 171) HE.out)
    have HN':=Lib.hid (Made.mk #[.int .u64 0,.int .u64 0,.int .u64 0] 171 HE.out)
    have hne:=HF.out.ne
    have HF':=Lib.hid (HF.out.alloc (.cells #[.int .u64 0,.int .u64 0,.int .u64 0] 171))
    refine mixQ_mk (over_of HE'.out) ?_
    generalize Z3.alloc (.cells #[.int .u64 0,.int .u64 0,.int .u64 0] 171) = Z4 at HE' HF' HN' ⊢
    generalize Z3.heap.size = bn at HN' hne ⊢
    have ne1:bf ≠ bn:=hne
    clear hne
    have ne2:=Ne.symm ne1
    clear HE HF
    have HE:=HE'
    clear HE'
    have HF:=HF'
    clear HF'
    have HN:=HN'
    clear HN'
    refine ways_act 5 (by kernel_rfl) ?_
    simp only [pickL,List.map_cons,List.map_nil,List.getD_cons_zero,List.getD_cons_succ]
    have fz:∀ o,Z4.frozen? ⟨bf,o,none⟩ = false:=fun _ => free_at HF.out.1
    have q0:=cell_at (o:=0) HF.out.1 rfl
    have q1:=cell_at (o:=1) HF.out.1 rfl
    have q2:=cell_at (o:=2) HF.out.1 rfl
    have q3:=cell_at (o:=3) HF.out.1 rfl
    have q4:=cell_at (o:=4) HF.out.1 rfl
    have q5:=cell_at (o:=5) HF.out.1 rfl
    go_wp2
    have HE':=Lib.hid (ext_set (p:=⟨bf,5,none⟩) (.int .i64 2) HF.out.2 (ext_set (p:=⟨bf,4,none⟩) (.int .i64 32) HF.out.2 (ext_set (p:=⟨bf,3,none⟩) (.int .i64 2) HF.out.2 (ext_set (p:=⟨bf,2,none⟩) (.int .i64 30) HF.out.2 (ext_set (p:=⟨bf,1,none⟩) (.int .i64 30) HF.out.2 (ext_set (p:=⟨bf,0,none⟩) (.int .i64 0) HF.out.2 HE.out))))))
    have HF':=Lib.hid ((((((HF.out.set 0 (.int .i64 0)).set 1 (.int .i64 30)).set 2 (.int .i64 30)).set 3 (.int .i64 2)).set 4 (.int .i64 32)).set 5 (.int .i64 2))
    have HN':=Lib.hid ((((((HN.out.far ne2 0 (.int .i64 0)).far ne2 1 (.int .i64 30)).far ne2 2 (.int .i64 30)).far ne2 3 (.int .i64 2)).far ne2 4 (.int .i64 32)).far ne2 5 (.int .i64 2))
    refine mixQ_mk (over_of HE'.out) (ways_act 6 (by kernel_rfl) ?_)
    generalize ((((((Z4.setCell ⟨bf,0,none⟩ (.int .i64 0)).setCell ⟨bf,1,none⟩ (.int .i64 30)).setCell ⟨bf,2,none⟩ (.int .i64 30)).setCell ⟨bf,3,none⟩ (.int .i64 2)).setCell ⟨bf,4,none⟩ (.int .i64 32)).setCell ⟨bf,5,none⟩ (.int .i64 2)) = X1 at HE' HF' HN' ⊢
    clear HE HF HN fz q0 q1 q2 q3 q4 q5
    simp only [pickL,List.map_cons,List.map_nil,List.getD_cons_zero,List.getD_cons_succ]
    have fz:∀ o,X1.frozen? ⟨bn,o,none⟩ = false:=fun _ => free_at HN'.out.1
    have q0:=cell_at (o:=0) HN'.out.1 rfl
    have q1:=cell_at (o:=1) HN'.out.1 rfl
    have q2:=cell_at (o:=2) HN'.out.1 rfl
    go_wp2
    have HE:=Lib.hid (ext_set (p:=⟨bn,2,none⟩) (.int .u64 (U (bvI s.k))) HN'.out.2 (ext_set (p:=⟨bn,1,none⟩) (.int .u64 (U (bvI s.m))) HN'.out.2 (ext_set (p:=⟨bn,0,none⟩) (.int .u64 (U (bvI s.g))) HN'.out.2 HE'.out)))
    have HF:=Lib.hid (((HF'.out.far ne1 0 (.int .u64 (U (bvI s.g)))).far ne1 1 (.int .u64 (U (bvI s.m)))).far ne1 2 (.int .u64 (U (bvI s.k))))
    have HN:=Lib.hid (((HN'.out.set 0 (.int .u64 (U (bvI s.g)))).set 1 (.int .u64 (U (bvI s.m)))).set 2 (.int .u64 (U (bvI s.k))))
    refine mixQ_mk (over_of HE.out) (ways_end (by kernel_rfl) ?_)
    exact HREST bf bn _ HE.out HF.out HN.out
   ·simp only [pickL,List.map_cons,List.map_nil,List.getD_cons_zero,List.getD_cons_succ]
    go_wp2
    have HE':=Lib.hid (ext_alloc (.cells #[.int .u64 0,.int .u64 0,.int .u64 0] 171) HE.out)
    have HN':=Lib.hid (Made.mk #[.int .u64 0,.int .u64 0,.int .u64 0] 171 HE.out)
    have hne:=HF.out.ne
    have HF':=Lib.hid (HF.out.alloc (.cells #[.int .u64 0,.int .u64 0,.int .u64 0] 171))
    refine mixQ_mk (over_of HE'.out) ?_
    generalize Z2.alloc (.cells #[.int .u64 0,.int .u64 0,.int .u64 0] 171) = Z3 at HE' HF' HN' ⊢
    generalize Z2.heap.size = bn at HN' hne ⊢
    have ne1:bf ≠ bn:=hne
    clear hne
    have ne2:=Ne.symm ne1
    clear HE HF
    have HE:=HE'
    clear HE'
    have HF:=HF'
    clear HF'
    have HN:=HN'
    clear HN'
    refine ways_act 2 (by kernel_rfl) ?_
    simp only [pickL,List.map_cons,List.map_nil,List.getD_cons_zero,List.getD_cons_succ]
    go_wp2_with (go_at_call 81;refine (numbers_any _ h _).mono ?_;rintro e w' hr;obtain ⟨rfl,s1,rfl⟩:=hr.over;clear hr)
    have HE':=Lib.hid (ext_over s1 HE.out)
    have HF':=Lib.hid (HF.out.over s1)
    have HN':=Lib.hid (HN.out.over s1)
    refine mixQ_mk (over_of HE'.out) ?_
    generalize over Z3 s1 = Z4 at HE' HF' HN' ⊢
    clear HE HF HN
    have HE:=HE'
    clear HE'
    have HF:=HF'
    clear HF'
    have HN:=HN'
    clear HN'
    refine ways_act 5 (by kernel_rfl) ?_
    simp only [pickL,List.map_cons,List.map_nil,List.getD_cons_zero,List.getD_cons_succ]
    have fz:∀ o,Z4.frozen? ⟨bf,o,none⟩ = false:=fun _ => free_at HF.out.1
    have q0:=cell_at (o:=0) HF.out.1 rfl
    have q1:=cell_at (o:=1) HF.out.1 rfl
    have q2:=cell_at (o:=2) HF.out.1 rfl
    have q3:=cell_at (o:=3) HF.out.1 rfl
    have q4:=cell_at (o:=4) HF.out.1 rfl
    have q5:=cell_at (o:=5) HF.out.1 rfl
    go_wp2
    have HE':=Lib.hid (ext_set (p:=⟨bf,5,none⟩) (.int .i64 2) HF.out.2 (ext_set (p:=⟨bf,4,none⟩) (.int .i64 32) HF.out.2 (ext_set (p:=⟨bf,3,none⟩) (.int .i64 2) HF.out.2 (ext_set (p:=⟨bf,2,none⟩) (.int .i64 30) HF.out.2 (ext_set (p:=⟨bf,1,none⟩) (.int .i64 30) HF.out.2 (ext_set (p:=⟨bf,0,none⟩) (.int .i64 0) HF.out.2 HE.out))))))
    have HF':=Lib.hid ((((((HF.out.set 0 (.int .i64 0)).set 1 (.int .i64 30)).set 2 (.int .i64 30)).set 3 (.int .i64 2)).set 4 (.int .i64 32)).set 5 (.int .i64 2))
    have HN':=Lib.hid ((((((HN.out.far ne2 0 (.int .i64 0)).far ne2 1 (.int .i64 30)).far ne2 2 (.int .i64 30)).far ne2 3 (.int .i64 2)).far ne2 4 (.int .i64 32)).far ne2 5 (.int .i64 2))
    refine mixQ_mk (over_of HE'.out) (ways_act 6 (by kernel_rfl) ?_)
    generalize ((((((Z4.setCell ⟨bf,0,none⟩ (.int .i64 0)).setCell ⟨bf,1,none⟩ (.int .i64 30)).setCell ⟨bf,2,none⟩ (.int .i64 30)).setCell ⟨bf,3,none⟩ (.int .i64 2)).setCell ⟨bf,4,none⟩ (.int .i64 32)).setCell ⟨bf,5,none⟩ (.int .i64 2)) = X1 at HE' HF' HN' ⊢
    clear HE HF HN fz q0 q1 q2 q3 q4 q5
    simp only [pickL,List.map_cons,List.map_nil,List.getD_cons_zero,List.getD_cons_succ]
    have fz:∀ o,X1.frozen? ⟨bn,o,none⟩ = false:=fun _ => free_at HN'.out.1
    have q0:=cell_at (o:=0) HN'.out.1 rfl
    have q1:=cell_at (o:=1) HN'.out.1 rfl
    have q2:=cell_at (o:=2) HN'.out.1 rfl
    go_wp2
    have HE:=Lib.hid (ext_set (p:=⟨bn,2,none⟩) (.int .u64 (U (bvI s.k))) HN'.out.2 (ext_set (p:=⟨bn,1,none⟩) (.int .u64 (U (bvI s.m))) HN'.out.2 (ext_set (p:=⟨bn,0,none⟩) (.int .u64 (U (bvI s.g))) HN'.out.2 HE'.out)))
    have HF:=Lib.hid (((HF'.out.far ne1 0 (.int .u64 (U (bvI s.g)))).far ne1 1 (.int .u64 (U (bvI s.m)))).far ne1 2 (.int .u64 (U (bvI s.k))))
    have HN:=Lib.hid (((HN'.out.set 0 (.int .u64 (U (bvI s.g)))).set 1 (.int .u64 (U (bvI s.m)))).set 2 (.int .u64 (U (bvI s.k))))
    refine mixQ_mk (over_of HE.out) (ways_end (by kernel_rfl) ?_)
    exact HREST bf bn _ HE.out HF.out HN.out
  ·simp only [pickL,List.map_cons,List.map_nil,List.getD_cons_zero,List.getD_cons_succ]
   go_wp2
   have HE':=Lib.hid (ext_alloc (.cells #[.int .u64 0,.int .u64 0,.int .u64 0] 171) HE.out)
   have HN':=Lib.hid (Made.mk #[.int .u64 0,.int .u64 0,.int .u64 0] 171 HE.out)
   refine mixQ_mk (over_of HE'.out) ?_
   generalize Z1.alloc (.cells #[.int .u64 0,.int .u64 0,.int .u64 0] 171) = Z2 at HE' HN' ⊢
   generalize Z1.heap.size = bn at HN' ⊢
   clear HE
   have HE:=HE'
   clear HE'
   have HN:=HN'
   clear HN'
   refine ways_fork 2 (by kernel_rfl) ?_ (ways_act 3 (by kernel_rfl) ?_)
   ·simp only [pickL,List.map_cons,List.map_nil,List.getD_cons_zero,List.getD_cons_succ]
    go_wp2_with (go_at_call 81;refine (numbers_any _ h _).mono ?_;rintro e w' hr;obtain ⟨rfl,s1,rfl⟩:=hr.over;clear hr)
    have HE':=Lib.hid (ext_over s1 HE.out)
    have HN':=Lib.hid (HN.out.over s1)
    refine mixQ_mk (over_of HE'.out) ?_
    generalize over Z2 s1 = Z3 at HE' HN' ⊢
    clear HE HN
    have HE:=HE'
    clear HE'
    have HN:=HN'
    clear HN'
    refine ways_act 3 (by kernel_rfl) ?_
    simp only [pickL,List.map_cons,List.map_nil,List.getD_cons_zero,List.getD_cons_succ]
    go_wp2
    have HE':=Lib.hid (ext_alloc (.cells #[.int .i64 0,.int .i64 0,.int .i64 0,.int .i64 0,.int .i64 0,.int .i64 0] 169) HE.out)
    have HF':=Lib.hid (Made.mk #[.int .i64 0,.int .i64 0,.int .i64 0,.int .i64 0,.int .i64 0,.int .i64 0] 169 HE.out)
    have hne:=HN.out.ne
    have HN':=Lib.hid (HN.out.alloc (.cells #[.int .i64 0,.int .i64 0,.int .i64 0,.int .i64 0,.int .i64 0,.int .i64 0] 169))
    refine mixQ_mk (over_of HE'.out) ?_
    generalize Z3.alloc (.cells #[.int .i64 0,.int .i64 0,.int .i64 0,.int .i64 0,.int .i64 0,.int .i64 0] 169) = Z4 at HE' HN' HF' ⊢
    generalize Z3.heap.size = bf at HF' hne ⊢
    have ne1:bf ≠ bn:=Ne.symm hne
    clear hne
    have ne2:=Ne.symm ne1
    clear HE HN
    have HE:=HE'
    clear HE'
    have HN:=HN'
    clear HN'
    have HF:=HF'
    clear HF'
    refine ways_act 5 (by kernel_rfl) ?_
    simp only [pickL,List.map_cons,List.map_nil,List.getD_cons_zero,List.getD_cons_succ]
    have fz:∀ o,Z4.frozen? ⟨bf,o,none⟩ = false:=fun _ => free_at HF.out.1
    have q0:=cell_at (o:=0) HF.out.1 rfl
    have q1:=cell_at (o:=1) HF.out.1 rfl
    have q2:=cell_at (o:=2) HF.out.1 rfl
    have q3:=cell_at (o:=3) HF.out.1 rfl
    have q4:=cell_at (o:=4) HF.out.1 rfl
    have q5:=cell_at (o:=5) HF.out.1 rfl
    go_wp2
    have HE':=Lib.hid (ext_set (p:=⟨bf,5,none⟩) (.int .i64 2) HF.out.2 (ext_set (p:=⟨bf,4,none⟩) (.int .i64 32) HF.out.2 (ext_set (p:=⟨bf,3,none⟩) (.int .i64 2) HF.out.2 (ext_set (p:=⟨bf,2,none⟩) (.int .i64 30) HF.out.2 (ext_set (p:=⟨bf,1,none⟩) (.int .i64 30) HF.out.2 (ext_set (p:=⟨bf,0,none⟩) (.int .i64 0) HF.out.2 HE.out))))))
    have HF':=Lib.hid ((((((HF.out.set 0 (.int .i64 0)).set 1 (.int .i64 30)).set 2 (.int .i64 30)).set 3 (.int .i64 2)).set 4 (.int .i64 32)).set 5 (.int .i64 2))
    have HN':=Lib.hid ((((((HN.out.far ne2 0 (.int .i64 0)).far ne2 1 (.int .i64 30)).far ne2 2 (.int .i64 30)).far ne2 3 (.int .i64 2)).far ne2 4 (.int .i64 32)).far ne2 5 (.int .i64 2))
    refine mixQ_mk (over_of HE'.out) (ways_act 6 (by kernel_rfl) ?_)
    generalize ((((((Z4.setCell ⟨bf,0,none⟩ (.int .i64 0)).setCell ⟨bf,1,none⟩ (.int .i64 30)).setCell ⟨bf,2,none⟩ (.int .i64 30)).setCell ⟨bf,3,none⟩ (.int .i64 2)).setCell ⟨bf,4,none⟩ (.int .i64 32)).setCell ⟨bf,5,none⟩ (.int .i64 2)) = X1 at HE' HF' HN' ⊢
    clear HE HF HN fz q0 q1 q2 q3 q4 q5
    simp only [pickL,List.map_cons,List.map_nil,List.getD_cons_zero,List.getD_cons_succ]
    have fz:∀ o,X1.frozen? ⟨bn,o,none⟩ = false:=fun _ => free_at HN'.out.1
    have q0:=cell_at (o:=0) HN'.out.1 rfl
    have q1:=cell_at (o:=1) HN'.out.1 rfl
    have q2:=cell_at (o:=2) HN'.out.1 rfl
    go_wp2
    have HE:=Lib.hid (ext_set (p:=⟨bn,2,none⟩) (.int .u64 (U (bvI s.k))) HN'.out.2 (ext_set (p:=⟨bn,1,none⟩) (.int .u64 (U (bvI s.m))) HN'.out.2 (ext_set (p:=⟨bn,0,none⟩) (.int .u64 (U (bvI s.g))) HN'.out.2 HE'.out)))
    have HF:=Lib.hid (((HF'.out.far ne1 0 (.int .u64 (U (bvI s.g)))).far ne1 1 (.int .u64 (U (bvI s.m)))).far ne1 2 (.int .u64 (U (bvI s.k))))
    have HN:=Lib.hid (((HN'.out.set 0 (.int .u64 (U (bvI s.g)))).set 1 (.int .u64 (U (bvI s.m)))).set 2 (.int .u64 (U (bvI s.k))))
    refine mixQ_mk (over_of HE.out) (ways_end (by kernel_rfl) ?_)
    exact HREST bf bn _ HE.out HF.out HN.out
   ·simp only [pickL,List.map_cons,List.map_nil,List.getD_cons_zero,List.getD_cons_succ]
    go_wp2
    have HE':=Lib.hid (ext_alloc (.cells #[.int .i64 0,.int .i64 0,.int .i64 0,.int .i64 0,.int .i64 0,.int .i64 0] 169) HE.out)
    have HF':=Lib.hid (Made.mk #[.int .i64 0,.int .i64 0,.int .i64 0,.int .i64 0,.int .i64 0,.int .i64 0] 169 HE.out)
    have hne:=HN.out.ne
    have HN':=Lib.hid (HN.out.alloc (.cells #[.int .i64 0,.int .i64 0,.int .i64 0,.int .i64 0,.int .i64 0,.int .i64 0] 169))
    refine mixQ_mk (over_of HE'.out) ?_
    generalize Z2.alloc (.cells #[.int .i64 0,.int .i64 0,.int .i64 0,.int .i64 0,.int .i64 0,.int .i64 0] 169) = Z3 at HE' HN' HF' ⊢
    generalize Z2.heap.size = bf at HF' hne ⊢
    have ne1:bf ≠ bn:=Ne.symm hne
    clear hne
    have ne2:=Ne.symm ne1
    clear HE HN
    have HE:=HE'
    clear HE'
    have HN:=HN'
    clear HN'
    have HF:=HF'
    clear HF'
    refine ways_act 2 (by kernel_rfl) ?_
    simp only [pickL,List.map_cons,List.map_nil,List.getD_cons_zero,List.getD_cons_succ]
    go_wp2_with (go_at_call 81;refine (numbers_any _ h _).mono ?_;rintro e w' hr;obtain ⟨rfl,s1,rfl⟩:=hr.over;clear hr)
    have HE':=Lib.hid (ext_over s1 HE.out)
    have HF':=Lib.hid (HF.out.over s1)
    have HN':=Lib.hid (HN.out.over s1)
    refine mixQ_mk (over_of HE'.out) ?_
    generalize over Z3 s1 = Z4 at HE' HF' HN' ⊢
    clear HE HF HN
    have HE:=HE'
    clear HE'
    have HF:=HF'
    clear HF'
    have HN:=HN'
    clear HN'
    refine ways_act 5 (by kernel_rfl) ?_
    simp only [pickL,List.map_cons,List.map_nil,List.getD_cons_zero,List.getD_cons_succ]
    have fz:∀ o,Z4.frozen? ⟨bf,o,none⟩ = false:=fun _ => free_at HF.out.1
    have q0:=cell_at (o:=0) HF.out.1 rfl
    have q1:=cell_at (o:=1) HF.out.1 rfl
    have q2:=cell_at (o:=2) HF.out.1 rfl
    have q3:=cell_at (o:=3) HF.out.1 rfl
    have q4:=cell_at (o:=4) HF.out.1 rfl
    have q5:=cell_at (o:=5) HF.out.1 rfl
    go_wp2
    have HE':=Lib.hid (ext_set (p:=⟨bf,5,none⟩) (.int .i64 2) HF.out.2 (ext_set (p:=⟨bf,4,none⟩) (.int .i64 32) HF.out.2 (ext_set (p:=⟨bf,3,none⟩) (.int .i64 2) HF.out.2 (ext_set (p:=⟨bf,2,none⟩) (.int .i64 30) HF.out.2 (ext_set (p:=⟨bf,1,none⟩) (.int .i64 30) HF.out.2 (ext_set (p:=⟨bf,0,none⟩) (.int .i64 0) HF.out.2 HE.out))))))
    have HF':=Lib.hid ((((((HF.out.set 0 (.int .i64 0)).set 1 (.int .i64 30)).set 2 (.int .i64 30)).set 3 (.int .i64 2)).set 4 (.int .i64 32)).set 5 (.int .i64 2))
    have HN':=Lib.hid ((((((HN.out.far ne2 0 (.int .i64 0)).far ne2 1 (.int .i64 30)).far ne2 2 (.int .i64 30)).far ne2 3 (.int .i64 2)).far ne2 4 (.int .i64 32)).far ne2 5 (.int .i64 2))
    refine mixQ_mk (over_of HE'.out) (ways_act 6 (by kernel_rfl) ?_)
    generalize ((((((Z4.setCell ⟨bf,0,none⟩ (.int .i64 0)).setCell ⟨bf,1,none⟩ (.int .i64 30)).setCell ⟨bf,2,none⟩ (.int .i64 30)).setCell ⟨bf,3,none⟩ (.int .i64 2)).setCell ⟨bf,4,none⟩ (.int .i64 32)).setCell ⟨bf,5,none⟩ (.int .i64 2)) = X1 at HE' HF' HN' ⊢
    clear HE HF HN fz q0 q1 q2 q3 q4 q5
    simp only [pickL,List.map_cons,List.map_nil,List.getD_cons_zero,List.getD_cons_succ]
    have fz:∀ o,X1.frozen? ⟨bn,o,none⟩ = false:=fun _ => free_at HN'.out.1
    have q0:=cell_at (o:=0) HN'.out.1 rfl
    have q1:=cell_at (o:=1) HN'.out.1 rfl
    have q2:=cell_at (o:=2) HN'.out.1 rfl
    go_wp2
    have HE:=Lib.hid (ext_set (p:=⟨bn,2,none⟩) (.int .u64 (U (bvI s.k))) HN'.out.2 (ext_set (p:=⟨bn,1,none⟩) (.int .u64 (U (bvI s.m))) HN'.out.2 (ext_set (p:=⟨bn,0,none⟩) (.int .u64 (U (bvI s.g))) HN'.out.2 HE'.out)))
    have HF:=Lib.hid (((HF'.out.far ne1 0 (.int .u64 (U (bvI s.g)))).far ne1 1 (.int .u64 (U (bvI s.m)))).far ne1 2 (.int .u64 (U (bvI s.k))))
    have HN:=Lib.hid (((HN'.out.set 0 (.int .u64 (U (bvI s.g)))).set 1 (.int .u64 (U (bvI s.m)))).set 2 (.int .u64 (U (bvI s.k))))
    refine mixQ_mk (over_of HE.out) (ways_end (by kernel_rfl) ?_)
    exact HREST bf bn _ HE.out HF.out HN.out
 ·simp only [pickL,List.map_cons,List.map_nil,List.getD_cons_zero,List.getD_cons_succ]
  go_wp2
  have HE':=Lib.hid (ext_alloc (.cells #[.int .i64 0,.int .i64 0,.int .i64 0,.int .i64 0,.int .i64 0,.int .i64 0] 169) HE.out)
  have HF':=Lib.hid (Made.mk #[.int .i64 0,.int .i64 0,.int .i64 0,.int .i64 0,.int .i64 0,.int .i64 0] 169 HE.out)
  refine mixQ_mk (over_of HE'.out) ?_
  generalize Z0.alloc (.cells #[.int .i64 0,.int .i64 0,.int .i64 0,.int .i64 0,.int .i64 0,.int .i64 0] 169) = Z1 at HE' HF' ⊢
  generalize Z0.heap.size = bf at HF' ⊢
  clear HE
  have HE:=HE'
  clear HE'
  have HF:=HF'
  clear HF'
  refine ways_fork 0 (by kernel_rfl) ?_ (ways_act 4 (by kernel_rfl) ?_)
  ·simp only [pickL,List.map_cons,List.map_nil,List.getD_cons_zero]
   go_wp2_with (go_at_call 80;refine (slayout_any _).mono ?_;rintro e w' hr;obtain ⟨rfl,s1,rfl⟩:=hr.over;clear hr)
   have HE':=Lib.hid (ext_over s1 HE.out)
   have HF':=Lib.hid (HF.out.over s1)
   refine mixQ_mk (over_of HE'.out) ?_
   generalize over Z1 s1 = Z2 at HE' HF' ⊢
   clear HE HF
   have HE:=HE'
   clear HE'
   have HF:=HF'
   clear HF'
   refine ways_fork 2 (by kernel_rfl) ?_ (ways_act 4 (by kernel_rfl) ?_)
   ·simp only [pickL,List.map_cons,List.map_nil,List.getD_cons_zero,List.getD_cons_succ]
    go_wp2_with (go_at_call 81;refine (numbers_any _ h _).mono ?_;rintro e w' hr;obtain ⟨rfl,s1,rfl⟩:=hr.over;clear hr)
    have HE':=Lib.hid (ext_over s1 HE.out)
    have HF':=Lib.hid (HF.out.over s1)
    refine mixQ_mk (over_of HE'.out) ?_
    generalize over Z2 s1 = Z3 at HE' HF' ⊢
    clear HE HF
    have HE:=HE'
    clear HE'
    have HF:=HF'
    clear HF'
    refine ways_act 4 (by kernel_rfl) ?_
    simp only [pickL,List.map_cons,List.map_nil,List.getD_cons_zero,List.getD_cons_succ]
    go_wp2
    have HE':=Lib.hid (ext_alloc (.cells #[.int .u64 0,.int .u64 0,.int .u64 0] 171) HE.out)
    have HN':=Lib.hid (Made.mk #[.int .u64 0,.int .u64 0,.int .u64 0] 171 HE.out)
    have hne:=HF.out.ne
    have HF':=Lib.hid (HF.out.alloc (.cells #[.int .u64 0,.int .u64 0,.int .u64 0] 171))
    refine mixQ_mk (over_of HE'.out) ?_
    generalize Z3.alloc (.cells #[.int .u64 0,.int .u64 0,.int .u64 0] 171) = Z4 at HE' HF' HN' ⊢
    generalize Z3.heap.size = bn at HN' hne ⊢
    have ne1:bf ≠ bn:=hne
    clear hne
    have ne2:=Ne.symm ne1
    clear HE HF
    have HE:=HE'
    clear HE'
    have HF:=HF'
    clear HF'
    have HN:=HN'
    clear HN'
    refine ways_act 5 (by kernel_rfl) ?_
    simp only [pickL,List.map_cons,List.map_nil,List.getD_cons_zero,List.getD_cons_succ]
    have fz:∀ o,Z4.frozen? ⟨bf,o,none⟩ = false:=fun _ => free_at HF.out.1
    have q0:=cell_at (o:=0) HF.out.1 rfl
    have q1:=cell_at (o:=1) HF.out.1 rfl
    have q2:=cell_at (o:=2) HF.out.1 rfl
    have q3:=cell_at (o:=3) HF.out.1 rfl
    have q4:=cell_at (o:=4) HF.out.1 rfl
    have q5:=cell_at (o:=5) HF.out.1 rfl
    go_wp2
    have HE':=Lib.hid (ext_set (p:=⟨bf,5,none⟩) (.int .i64 2) HF.out.2 (ext_set (p:=⟨bf,4,none⟩) (.int .i64 32) HF.out.2 (ext_set (p:=⟨bf,3,none⟩) (.int .i64 2) HF.out.2 (ext_set (p:=⟨bf,2,none⟩) (.int .i64 30) HF.out.2 (ext_set (p:=⟨bf,1,none⟩) (.int .i64 30) HF.out.2 (ext_set (p:=⟨bf,0,none⟩) (.int .i64 0) HF.out.2 HE.out))))))
    have HF':=Lib.hid ((((((HF.out.set 0 (.int .i64 0)).set 1 (.int .i64 30)).set 2 (.int .i64 30)).set 3 (.int .i64 2)).set 4 (.int .i64 32)).set 5 (.int .i64 2))
    have HN':=Lib.hid ((((((HN.out.far ne2 0 (.int .i64 0)).far ne2 1 (.int .i64 30)).far ne2 2 (.int .i64 30)).far ne2 3 (.int .i64 2)).far ne2 4 (.int .i64 32)).far ne2 5 (.int .i64 2))
    refine mixQ_mk (over_of HE'.out) (ways_act 6 (by kernel_rfl) ?_)
    generalize ((((((Z4.setCell ⟨bf,0,none⟩ (.int .i64 0)).setCell ⟨bf,1,none⟩ (.int .i64 30)).setCell ⟨bf,2,none⟩ (.int .i64 30)).setCell ⟨bf,3,none⟩ (.int .i64 2)).setCell ⟨bf,4,none⟩ (.int .i64 32)).setCell ⟨bf,5,none⟩ (.int .i64 2)) = X1 at HE' HF' HN' ⊢
    clear HE HF HN fz q0 q1 q2 q3 q4 q5
    simp only [pickL,List.map_cons,List.map_nil,List.getD_cons_zero,List.getD_cons_succ]
    have fz:∀ o,X1.frozen? ⟨bn,o,none⟩ = false:=fun _ => free_at HN'.out.1
    have q0:=cell_at (o:=0) HN'.out.1 rfl
    have q1:=cell_at (o:=1) HN'.out.1 rfl
    have q2:=cell_at (o:=2) HN'.out.1 rfl
    go_wp2
    have HE:=Lib.hid (ext_set (p:=⟨bn,2,none⟩) (.int .u64 (U (bvI s.k))) HN'.out.2 (ext_set (p:=⟨bn,1,none⟩) (.int .u64 (U (bvI s.m))) HN'.out.2 (ext_set (p:=⟨bn,0,none⟩) (.int .u64 (U (bvI s.g))) HN'.out.2 HE'.out)))
    have HF:=Lib.hid (((HF'.out.far ne1 0 (.int .u64 (U (bvI s.g)))).far ne1 1 (.int .u64 (U (bvI s.m)))).far ne1 2 (.int .u64 (U (bvI s.k))))
    have HN:=Lib.hid (((HN'.out.set 0 (.int .u64 (U (bvI s.g)))).set 1 (.int .u64 (U (bvI s.m)))).set 2 (.int .u64 (U (bvI s.k))))
    refine mixQ_mk (over_of HE.out) (ways_end (by kernel_rfl) ?_)
    exact HREST bf bn _ HE.out HF.out HN.out
   ·simp only [pickL,List.map_cons,List.map_nil,List.getD_cons_zero,List.getD_cons_succ]
    go_wp2
    have HE':=Lib.hid (ext_alloc (.cells #[.int .u64 0,.int .u64 0,.int .u64 0] 171) HE.out)
    have HN':=Lib.hid (Made.mk #[.int .u64 0,.int .u64 0,.int .u64 0] 171 HE.out)
    have hne:=HF.out.ne
    have HF':=Lib.hid (HF.out.alloc (.cells #[.int .u64 0,.int .u64 0,.int .u64 0] 171))
    refine mixQ_mk (over_of HE'.out) ?_
    generalize Z2.alloc (.cells #[.int .u64 0,.int .u64 0,.int .u64 0] 171) = Z3 at HE' HF' HN' ⊢
    generalize Z2.heap.size = bn at HN' hne ⊢
    have ne1:bf ≠ bn:=hne
    clear hne
    have ne2:=Ne.symm ne1
    clear HE HF
    have HE:=HE'
    clear HE'
    have HF:=HF'
    clear HF'
    have HN:=HN'
    clear HN'
    refine ways_act 2 (by kernel_rfl) ?_
    simp only [pickL,List.map_cons,List.map_nil,List.getD_cons_zero,List.getD_cons_succ]
    go_wp2_with (go_at_call 81;refine (numbers_any _ h _).mono ?_;rintro e w' hr;obtain ⟨rfl,s1,rfl⟩:=hr.over;clear hr)
    have HE':=Lib.hid (ext_over s1 HE.out)
    have HF':=Lib.hid (HF.out.over s1)
    have HN':=Lib.hid (HN.out.over s1)
    refine mixQ_mk (over_of HE'.out) ?_
    generalize over Z3 s1 = Z4 at HE' HF' HN' ⊢
    clear HE HF HN
    have HE:=HE'
    clear HE'
    have HF:=HF'
    clear HF'
    have HN:=HN'
    clear HN'
    refine ways_act 5 (by kernel_rfl) ?_
    simp only [pickL,List.map_cons,List.map_nil,List.getD_cons_zero,List.getD_cons_succ]
    have fz:∀ o,Z4.frozen? ⟨bf,o,none⟩ = false:=fun _ => free_at HF.out.1
    have q0:=cell_at (o:=0) HF.out.1 rfl
    have q1:=cell_at (o:=1) HF.out.1 rfl
    have q2:=cell_at (o:=2) HF.out.1 rfl
    have q3:=cell_at (o:=3) HF.out.1 rfl
    have q4:=cell_at (o:=4) HF.out.1 rfl
    have q5:=cell_at (o:=5) HF.out.1 rfl
    go_wp2
    have HE':=Lib.hid (ext_set (p:=⟨bf,5,none⟩) (.int .i64 2) HF.out.2 (ext_set (p:=⟨bf,4,none⟩) (.int .i64 32) HF.out.2 (ext_set (p:=⟨bf,3,none⟩) (.int .i64 2) HF.out.2 (ext_set (p:=⟨bf,2,none⟩) (.int .i64 30) HF.out.2 (ext_set (p:=⟨bf,1,none⟩) (.int .i64 30) HF.out.2 (ext_set (p:=⟨bf,0,none⟩) (.int .i64 0) HF.out.2 HE.out))))))
    have HF':=Lib.hid ((((((HF.out.set 0 (.int .i64 0)).set 1 (.int .i64 30)).set 2 (.int .i64 30)).set 3 (.int .i64 2)).set 4 (.int .i64 32)).set 5 (.int .i64 2))
    have HN':=Lib.hid ((((((HN.out.far ne2 0 (.int .i64 0)).far ne2 1 (.int .i64 30)).far ne2 2 (.int .i64 30)).far ne2 3 (.int .i64 2)).far ne2 4 (.int .i64 32)).far ne2 5 (.int .i64 2))
    refine mixQ_mk (over_of HE'.out) (ways_act 6 (by kernel_rfl) ?_)
    generalize ((((((Z4.setCell ⟨bf,0,none⟩ (.int .i64 0)).setCell ⟨bf,1,none⟩ (.int .i64 30)).setCell ⟨bf,2,none⟩ (.int .i64 30)).setCell ⟨bf,3,none⟩ (.int .i64 2)).setCell ⟨bf,4,none⟩ (.int .i64 32)).setCell ⟨bf,5,none⟩ (.int .i64 2)) = X1 at HE' HF' HN' ⊢
    clear HE HF HN fz q0 q1 q2 q3 q4 q5
    simp only [pickL,List.map_cons,List.map_nil,List.getD_cons_zero,List.getD_cons_succ]
    have fz:∀ o,X1.frozen? ⟨bn,o,none⟩ = false:=fun _ => free_at HN'.out.1
    have q0:=cell_at (o:=0) HN'.out.1 rfl
    have q1:=cell_at (o:=1) HN'.out.1 rfl
    have q2:=cell_at (o:=2) HN'.out.1 rfl
    go_wp2
    have HE:=Lib.hid (ext_set (p:=⟨bn,2,none⟩) (.int .u64 (U (bvI s.k))) HN'.out.2 (ext_set (p:=⟨bn,1,none⟩) (.int .u64 (U (bvI s.m))) HN'.out.2 (ext_set (p:=⟨bn,0,none⟩) (.int .u64 (U (bvI s.g))) HN'.out.2 HE'.out)))
    have HF:=Lib.hid (((HF'.out.far ne1 0 (.int .u64 (U (bvI s.g)))).far ne1 1 (.int .u64 (U (bvI s.m)))).far ne1 2 (.int .u64 (U (bvI s.k))))
    have HN:=Lib.hid (((HN'.out.set 0 (.int .u64 (U (bvI s.g)))).set 1 (.int .u64 (U (bvI s.m)))).set 2 (.int .u64 (U (bvI s.k))))
    refine mixQ_mk (over_of HE.out) (ways_end (by kernel_rfl) ?_)
    exact HREST bf bn _ HE.out HF.out HN.out
  ·simp only [pickL,List.map_cons,List.map_nil,List.getD_cons_zero,List.getD_cons_succ]
   go_wp2
   have HE':=Lib.hid (ext_alloc (.cells #[.int .u64 0,.int .u64 0,.int .u64 0] 171) HE.out)
   have HN':=Lib.hid (Made.mk #[.int .u64 0,.int .u64 0,.int .u64 0] 171 HE.out)
   have hne:=HF.out.ne
   have HF':=Lib.hid (HF.out.alloc (.cells #[.int .u64 0,.int .u64 0,.int .u64 0] 171))
   refine mixQ_mk (over_of HE'.out) ?_
   generalize Z1.alloc (.cells #[.int .u64 0,.int .u64 0,.int .u64 0] 171) = Z2 at HE' HF' HN' ⊢
   generalize Z1.heap.size = bn at HN' hne ⊢
   have ne1:bf ≠ bn:=hne
   clear hne
   have ne2:=Ne.symm ne1
   clear HE HF
   have HE:=HE'
   clear HE'
   have HF:=HF'
   clear HF'
   have HN:=HN'
   clear HN'
   refine ways_act 0 (by kernel_rfl) ?_
   simp only [pickL,List.map_cons,List.map_nil,List.getD_cons_zero]
   go_wp2_with (go_at_call 80;refine (slayout_any _).mono ?_;rintro e w' hr;obtain ⟨rfl,s1,rfl⟩:=hr.over;clear hr)
   have HE':=Lib.hid (ext_over s1 HE.out)
   have HF':=Lib.hid (HF.out.over s1)
   have HN':=Lib.hid (HN.out.over s1)
   refine mixQ_mk (over_of HE'.out) ?_
   generalize over Z2 s1 = Z3 at HE' HF' HN' ⊢
   clear HE HF HN
   have HE:=HE'
   clear HE'
   have HF:=HF'
   clear HF'
   have HN:=HN'
   clear HN'
   refine ways_act 2 (by kernel_rfl) ?_
   simp only [pickL,List.map_cons,List.map_nil,List.getD_cons_zero,List.getD_cons_succ]
   go_wp2_with (go_at_call 81;refine (numbers_any _ h _).mono ?_;rintro e w' hr;obtain ⟨rfl,s1,rfl⟩:=hr.over;clear hr)
   have HE':=Lib.hid (ext_over s1 HE.out)
   have HF':=Lib.hid (HF.out.over s1)
   have HN':=Lib.hid (HN.out.over s1)
   refine mixQ_mk (over_of HE'.out) ?_
   generalize over Z3 s1 = Z4 at HE' HF' HN' ⊢
   clear HE HF HN
   have HE:=HE'
   clear HE'
   have HF:=HF'
   clear HF'
   have HN:=HN'
   clear HN'
   refine ways_act 5 (by kernel_rfl) ?_
   simp only [pickL,List.map_cons,List.map_nil,List.getD_cons_zero,List.getD_cons_succ]
   have fz:∀ o,Z4.frozen? ⟨bf,o,none⟩ = false:=fun _ => free_at HF.out.1
   have q0:=cell_at (o:=0) HF.out.1 rfl
   have q1:=cell_at (o:=1) HF.out.1 rfl
   have q2:=cell_at (o:=2) HF.out.1 rfl
   have q3:=cell_at (o:=3) HF.out.1 rfl
   have q4:=cell_at (o:=4) HF.out.1 rfl
   have q5:=cell_at (o:=5) HF.out.1 rfl
   go_wp2
   have HE':=Lib.hid (ext_set (p:=⟨bf,5,none⟩) (.int .i64 2) HF.out.2 (ext_set (p:=⟨bf,4,none⟩) (.int .i64 32) HF.out.2 (ext_set (p:=⟨bf,3,none⟩) (.int .i64 2) HF.out.2 (ext_set (p:=⟨bf,2,none⟩) (.int .i64 30) HF.out.2 (ext_set (p:=⟨bf,1,none⟩) (.int .i64 30) HF.out.2 (ext_set (p:=⟨bf,0,none⟩) (.int .i64 0) HF.out.2 HE.out))))))
   have HF':=Lib.hid ((((((HF.out.set 0 (.int .i64 0)).set 1 (.int .i64 30)).set 2 (.int .i64 30)).set 3 (.int .i64 2)).set 4 (.int .i64 32)).set 5 (.int .i64 2))
   have HN':=Lib.hid ((((((HN.out.far ne2 0 (.int .i64 0)).far ne2 1 (.int .i64 30)).far ne2 2 (.int .i64 30)).far ne2 3 (.int .i64 2)).far ne2 4 (.int .i64 32)).far ne2 5 (.int .i64 2))
   refine mixQ_mk (over_of HE'.out) (ways_act 6 (by kernel_rfl) ?_)
   generalize ((((((Z4.setCell ⟨bf,0,none⟩ (.int .i64 0)).setCell ⟨bf,1,none⟩ (.int .i64 30)).setCell ⟨bf,2,none⟩ (.int .i64 30)).setCell ⟨bf,3,none⟩ (.int .i64 2)).setCell ⟨bf,4,none⟩ (.int .i64 32)).setCell ⟨bf,5,none⟩ (.int .i64 2)) = X1 at HE' HF' HN' ⊢
   clear HE HF HN fz q0 q1 q2 q3 q4 q5
   simp only [pickL,List.map_cons,List.map_nil,List.getD_cons_zero,List.getD_cons_succ]
   have fz:∀ o,X1.frozen? ⟨bn,o,none⟩ = false:=fun _ => free_at HN'.out.1
   have q0:=cell_at (o:=0) HN'.out.1 rfl
   have q1:=cell_at (o:=1) HN'.out.1 rfl
   have q2:=cell_at (o:=2) HN'.out.1 rfl
   go_wp2
   have HE:=Lib.hid (ext_set (p:=⟨bn,2,none⟩) (.int .u64 (U (bvI s.k))) HN'.out.2 (ext_set (p:=⟨bn,1,none⟩) (.int .u64 (U (bvI s.m))) HN'.out.2 (ext_set (p:=⟨bn,0,none⟩) (.int .u64 (U (bvI s.g))) HN'.out.2 HE'.out)))
   have HF:=Lib.hid (((HF'.out.far ne1 0 (.int .u64 (U (bvI s.g)))).far ne1 1 (.int .u64 (U (bvI s.m)))).far ne1 2 (.int .u64 (U (bvI s.k))))
   have HN:=Lib.hid (((HN'.out.set 0 (.int .u64 (U (bvI s.g)))).set 1 (.int .u64 (U (bvI s.m)))).set 2 (.int .u64 (U (bvI s.k))))
   refine mixQ_mk (over_of HE.out) (ways_end (by kernel_rfl) ?_)
   exact HREST bf bn _ HE.out HF.out HN.out
 ·simp only [pickL,List.map_cons,List.map_nil,List.getD_cons_zero,List.getD_cons_succ]
  go_wp2
  have HE':=Lib.hid (ext_alloc (.cells #[.int .u64 0,.int .u64 0,.int .u64 0] 171) HE.out)
  have HN':=Lib.hid (Made.mk #[.int .u64 0,.int .u64 0,.int .u64 0] 171 HE.out)
  refine mixQ_mk (over_of HE'.out) ?_
  generalize Z0.alloc (.cells #[.int .u64 0,.int .u64 0,.int .u64 0] 171) = Z1 at HE' HN' ⊢
  generalize Z0.heap.size = bn at HN' ⊢
  clear HE
  have HE:=HE'
  clear HE'
  have HN:=HN'
  clear HN'
  refine ways_fork 0 (by kernel_rfl) ?_ (ways_act 3 (by kernel_rfl) ?_)
  ·simp only [pickL,List.map_cons,List.map_nil,List.getD_cons_zero]
   go_wp2_with (go_at_call 80;refine (slayout_any _).mono ?_;rintro e w' hr;obtain ⟨rfl,s1,rfl⟩:=hr.over;clear hr)
   have HE':=Lib.hid (ext_over s1 HE.out)
   have HN':=Lib.hid (HN.out.over s1)
   refine mixQ_mk (over_of HE'.out) ?_
   generalize over Z1 s1 = Z2 at HE' HN' ⊢
   clear HE HN
   have HE:=HE'
   clear HE'
   have HN:=HN'
   clear HN'
   refine ways_fork 2 (by kernel_rfl) ?_ (ways_act 3 (by kernel_rfl) ?_)
   ·simp only [pickL,List.map_cons,List.map_nil,List.getD_cons_zero,List.getD_cons_succ]
    go_wp2_with (go_at_call 81;refine (numbers_any _ h _).mono ?_;rintro e w' hr;obtain ⟨rfl,s1,rfl⟩:=hr.over;clear hr)
    have HE':=Lib.hid (ext_over s1 HE.out)
    have HN':=Lib.hid (HN.out.over s1)
    refine mixQ_mk (over_of HE'.out) ?_
    generalize over Z2 s1 = Z3 at HE' HN' ⊢
    clear HE HN
    have HE:=HE'
    clear HE'
    have HN:=HN'
    clear HN'
    refine ways_act 3 (by kernel_rfl) ?_
    simp only [pickL,List.map_cons,List.map_nil,List.getD_cons_zero,List.getD_cons_succ]
    go_wp2
    have HE':=Lib.hid (ext_alloc (.cells #[.int .i64 0,.int .i64 0,.int .i64 0,.int .i64 0,.int .i64 0,.int .i64 0] 169) HE.out)
    have HF':=Lib.hid (Made.mk #[.int .i64 0,.int .i64 0,.int .i64 0,.int .i64 0,.int .i64 0,.int .i64 0] 169 HE.out)
    have hne:=HN.out.ne
    have HN':=Lib.hid (HN.out.alloc (.cells #[.int .i64 0,.int .i64 0,.int .i64 0,.int .i64 0,.int .i64 0,.int .i64 0] 169))
    refine mixQ_mk (over_of HE'.out) ?_
    generalize Z3.alloc (.cells #[.int .i64 0,.int .i64 0,.int .i64 0,.int .i64 0,.int .i64 0,.int .i64 0] 169) = Z4 at HE' HN' HF' ⊢
    generalize Z3.heap.size = bf at HF' hne ⊢
    have ne1:bf ≠ bn:=Ne.symm hne
    clear hne
    have ne2:=Ne.symm ne1
    clear HE HN
    have HE:=HE'
    clear HE'
    have HN:=HN'
    clear HN'
    have HF:=HF'
    clear HF'
    refine ways_act 5 (by kernel_rfl) ?_
    simp only [pickL,List.map_cons,List.map_nil,List.getD_cons_zero,List.getD_cons_succ]
    have fz:∀ o,Z4.frozen? ⟨bf,o,none⟩ = false:=fun _ => free_at HF.out.1
    have q0:=cell_at (o:=0) HF.out.1 rfl
    have q1:=cell_at (o:=1) HF.out.1 rfl
    have q2:=cell_at (o:=2) HF.out.1 rfl
    have q3:=cell_at (o:=3) HF.out.1 rfl
    have q4:=cell_at (o:=4) HF.out.1 rfl
    have q5:=cell_at (o:=5) HF.out.1 rfl
    go_wp2
    have HE':=Lib.hid (ext_set (p:=⟨bf,5,none⟩) (.int .i64 2) HF.out.2 (ext_set (p:=⟨bf,4,none⟩) (.int .i64 32) HF.out.2 (ext_set (p:=⟨bf,3,none⟩) (.int .i64 2) HF.out.2 (ext_set (p:=⟨bf,2,none⟩) (.int .i64 30) HF.out.2 (ext_set (p:=⟨bf,1,none⟩) (.int .i64 30) HF.out.2 (ext_set (p:=⟨bf,0,none⟩) (.int .i64 0) HF.out.2 HE.out))))))
    have HF':=Lib.hid ((((((HF.out.set 0 (.int .i64 0)).set 1 (.int .i64 30)).set 2 (.int .i64 30)).set 3 (.int .i64 2)).set 4 (.int .i64 32)).set 5 (.int .i64 2))
    have HN':=Lib.hid ((((((HN.out.far ne2 0 (.int .i64 0)).far ne2 1 (.int .i64 30)).far ne2 2 (.int .i64 30)).far ne2 3 (.int .i64 2)).far ne2 4 (.int .i64 32)).far ne2 5 (.int .i64 2))
    refine mixQ_mk (over_of HE'.out) (ways_act 6 (by kernel_rfl) ?_)
    generalize ((((((Z4.setCell ⟨bf,0,none⟩ (.int .i64 0)).setCell ⟨bf,1,none⟩ (.int .i64 30)).setCell ⟨bf,2,none⟩ (.int .i64 30)).setCell ⟨bf,3,none⟩ (.int .i64 2)).setCell ⟨bf,4,none⟩ (.int .i64 32)).setCell ⟨bf,5,none⟩ (.int .i64 2)) = X1 at HE' HF' HN' ⊢
    clear HE HF HN fz q0 q1 q2 q3 q4 q5
    simp only [pickL,List.map_cons,List.map_nil,List.getD_cons_zero,List.getD_cons_succ]
    have fz:∀ o,X1.frozen? ⟨bn,o,none⟩ = false:=fun _ => free_at HN'.out.1
    have q0:=cell_at (o:=0) HN'.out.1 rfl
    have q1:=cell_at (o:=1) HN'.out.1 rfl
    have q2:=cell_at (o:=2) HN'.out.1 rfl
    go_wp2
    have HE:=Lib.hid (ext_set (p:=⟨bn,2,none⟩) (.int .u64 (U (bvI s.k))) HN'.out.2 (ext_set (p:=⟨bn,1,none⟩) (.int .u64 (U (bvI s.m))) HN'.out.2 (ext_set (p:=⟨bn,0,none⟩) (.int .u64 (U (bvI s.g))) HN'.out.2 HE'.out)))
    have HF:=Lib.hid (((HF'.out.far ne1 0 (.int .u64 (U (bvI s.g)))).far ne1 1 (.int .u64 (U (bvI s.m)))).far ne1 2 (.int .u64 (U (bvI s.k))))
    have HN:=Lib.hid (((HN'.out.set 0 (.int .u64 (U (bvI s.g)))).set 1 (.int .u64 (U (bvI s.m)))).set 2 (.int .u64 (U (bvI s.k))))
    refine mixQ_mk (over_of HE.out) (ways_end (by kernel_rfl) ?_)
    exact HREST bf bn _ HE.out HF.out HN.out
   ·simp only [pickL,List.map_cons,List.map_nil,List.getD_cons_zero,List.getD_cons_succ]
    go_wp2
    have HE':=Lib.hid (ext_alloc (.cells #[.int .i64 0,.int .i64 0,.int .i64 0,.int .i64 0,.int .i64 0,.int .i64 0] 169) HE.out)
    have HF':=Lib.hid (Made.mk #[.int .i64 0,.int .i64 0,.int .i64 0,.int .i64 0,.int .i64 0,.int .i64 0] 169 HE.out)
    have hne:=HN.out.ne
    have HN':=Lib.hid (HN.out.alloc (.cells #[.int .i64 0,.int .i64 0,.int .i64 0,.int .i64 0,.int .i64 0,.int .i64 0] 169))
    refine mixQ_mk (over_of HE'.out) ?_
    generalize Z2.alloc (.cells #[.int .i64 0,.int .i64 0,.int .i64 0,.int .i64 0,.int .i64 0,.int .i64 0] 169) = Z3 at HE' HN' HF' ⊢
    generalize Z2.heap.size = bf at HF' hne ⊢
    have ne1:bf ≠ bn:=Ne.symm hne
    clear hne
    have ne2:=Ne.symm ne1
    clear HE HN
    have HE:=HE'
    clear HE'
    have HN:=HN'
    clear HN'
    have HF:=HF'
    clear HF'
    refine ways_act 2 (by kernel_rfl) ?_
    simp only [pickL,List.map_cons,List.map_nil,List.getD_cons_zero,List.getD_cons_succ]
    go_wp2_with (go_at_call 81;refine (numbers_any _ h _).mono ?_;rintro e w' hr;obtain ⟨rfl,s1,rfl⟩:=hr.over;clear hr)
    have HE':=Lib.hid (ext_over s1 HE.out)
    have HF':=Lib.hid (HF.out.over s1)
    have HN':=Lib.hid (HN.out.over s1)
    refine mixQ_mk (over_of HE'.out) ?_
    generalize over Z3 s1 = Z4 at HE' HF' HN' ⊢
    clear HE HF HN
    have HE:=HE'
    clear HE'
    have HF:=HF'
    clear HF'
    have HN:=HN'
    clear HN'
    refine ways_act 5 (by kernel_rfl) ?_
    simp only [pickL,List.map_cons,List.map_nil,List.getD_cons_zero,List.getD_cons_succ]
    have fz:∀ o,Z4.frozen? ⟨bf,o,none⟩ = false:=fun _ => free_at HF.out.1
    have q0:=cell_at (o:=0) HF.out.1 rfl
    have q1:=cell_at (o:=1) HF.out.1 rfl
    have q2:=cell_at (o:=2) HF.out.1 rfl
    have q3:=cell_at (o:=3) HF.out.1 rfl
    have q4:=cell_at (o:=4) HF.out.1 rfl
    have q5:=cell_at (o:=5) HF.out.1 rfl
    go_wp2
    have HE':=Lib.hid (ext_set (p:=⟨bf,5,none⟩) (.int .i64 2) HF.out.2 (ext_set (p:=⟨bf,4,none⟩) (.int .i64 32) HF.out.2 (ext_set (p:=⟨bf,3,none⟩) (.int .i64 2) HF.out.2 (ext_set (p:=⟨bf,2,none⟩) (.int .i64 30) HF.out.2 (ext_set (p:=⟨bf,1,none⟩) (.int .i64 30) HF.out.2 (ext_set (p:=⟨bf,0,none⟩) (.int .i64 0) HF.out.2 HE.out))))))
    have HF':=Lib.hid ((((((HF.out.set 0 (.int .i64 0)).set 1 (.int .i64 30)).set 2 (.int .i64 30)).set 3 (.int .i64 2)).set 4 (.int .i64 32)).set 5 (.int .i64 2))
    have HN':=Lib.hid ((((((HN.out.far ne2 0 (.int .i64 0)).far ne2 1 (.int .i64 30)).far ne2 2 (.int .i64 30)).far ne2 3 (.int .i64 2)).far ne2 4 (.int .i64 32)).far ne2 5 (.int .i64 2))
    refine mixQ_mk (over_of HE'.out) (ways_act 6 (by kernel_rfl) ?_)
    generalize ((((((Z4.setCell ⟨bf,0,none⟩ (.int .i64 0)).setCell ⟨bf,1,none⟩ (.int .i64 30)).setCell ⟨bf,2,none⟩ (.int .i64 30)).setCell ⟨bf,3,none⟩ (.int .i64 2)).setCell ⟨bf,4,none⟩ (.int .i64 32)).setCell ⟨bf,5,none⟩ (.int .i64 2)) = X1 at HE' HF' HN' ⊢
    clear HE HF HN fz q0 q1 q2 q3 q4 q5
    simp only [pickL,List.map_cons,List.map_nil,List.getD_cons_zero,List.getD_cons_succ]
    have fz:∀ o,X1.frozen? ⟨bn,o,none⟩ = false:=fun _ => free_at HN'.out.1
    have q0:=cell_at (o:=0) HN'.out.1 rfl
    have q1:=cell_at (o:=1) HN'.out.1 rfl
    have q2:=cell_at (o:=2) HN'.out.1 rfl
    go_wp2
    have HE:=Lib.hid (ext_set (p:=⟨bn,2,none⟩) (.int .u64 (U (bvI s.k))) HN'.out.2 (ext_set (p:=⟨bn,1,none⟩) (.int .u64 (U (bvI s.m))) HN'.out.2 (ext_set (p:=⟨bn,0,none⟩) (.int .u64 (U (bvI s.g))) HN'.out.2 HE'.out)))
    have HF:=Lib.hid (((HF'.out.far ne1 0 (.int .u64 (U (bvI s.g)))).far ne1 1 (.int .u64 (U (bvI s.m)))).far ne1 2 (.int .u64 (U (bvI s.k))))
    have HN:=Lib.hid (((HN'.out.set 0 (.int .u64 (U (bvI s.g)))).set 1 (.int .u64 (U (bvI s.m)))).set 2 (.int .u64 (U (bvI s.k))))
    refine mixQ_mk (over_of HE.out) (ways_end (by kernel_rfl) ?_)
    exact HREST bf bn _ HE.out HF.out HN.out
  ·simp only [pickL,List.map_cons,List.map_nil,List.getD_cons_zero,List.getD_cons_succ]
   go_wp2
   have HE':=Lib.hid (ext_alloc (.cells #[.int .i64 0,.int .i64 0,.int .i64 0,.int .i64 0,.int .i64 0,.int .i64 0] 169) HE.out)
   have HF':=Lib.hid (Made.mk #[.int .i64 0,.int .i64 0,.int .i64 0,.int .i64 0,.int .i64 0,.int .i64 0] 169 HE.out)
   have hne:=HN.out.ne
   have HN':=Lib.hid (HN.out.alloc (.cells #[.int .i64 0,.int .i64 0,.int .i64 0,.int .i64 0,.int .i64 0,.int .i64 0] 169))
   refine mixQ_mk (over_of HE'.out) ?_
   generalize Z1.alloc (.cells #[.int .i64 0,.int .i64 0,.int .i64 0,.int .i64 0,.int .i64 0,.int .i64 0] 169) = Z2 at HE' HN' HF' ⊢
   generalize Z1.heap.size = bf at HF' hne ⊢
   have ne1:bf ≠ bn:=Ne.symm hne
   clear hne
   have ne2:=Ne.symm ne1
   clear HE HN
   have HE:=HE'
   clear HE'
   have HN:=HN'
   clear HN'
   have HF:=HF'
   clear HF'
   refine ways_act 0 (by kernel_rfl) ?_
   simp only [pickL,List.map_cons,List.map_nil,List.getD_cons_zero]
   go_wp2_with (go_at_call 80;refine (slayout_any _).mono ?_;rintro e w' hr;obtain ⟨rfl,s1,rfl⟩:=hr.over;clear hr)
   have HE':=Lib.hid (ext_over s1 HE.out)
   have HF':=Lib.hid (HF.out.over s1)
   have HN':=Lib.hid (HN.out.over s1)
   refine mixQ_mk (over_of HE'.out) ?_
   generalize over Z2 s1 = Z3 at HE' HF' HN' ⊢
   clear HE HF HN
   have HE:=HE'
   clear HE'
   have HF:=HF'
   clear HF'
   have HN:=HN'
   clear HN'
   refine ways_act 2 (by kernel_rfl) ?_
   simp only [pickL,List.map_cons,List.map_nil,List.getD_cons_zero,List.getD_cons_succ]
   go_wp2_with (go_at_call 81;refine (numbers_any _ h _).mono ?_;rintro e w' hr;obtain ⟨rfl,s1,rfl⟩:=hr.over;clear hr)
   have HE':=Lib.hid (ext_over s1 HE.out)
   have HF':=Lib.hid (HF.out.over s1)
   have HN':=Lib.hid (HN.out.over s1)
   refine mixQ_mk (over_of HE'.out) ?_
   generalize over Z3 s1 = Z4 at HE' HF' HN' ⊢
   clear HE HF HN
   have HE:=HE'
   clear HE'
   have HF:=HF'
   clear HF'
   have HN:=HN'
   clear HN'
   refine ways_act 5 (by kernel_rfl) ?_
   simp only [pickL,List.map_cons,List.map_nil,List.getD_cons_zero,List.getD_cons_succ]
   have fz:∀ o,Z4.frozen? ⟨bf,o,none⟩ = false:=fun _ => free_at HF.out.1
   have q0:=cell_at (o:=0) HF.out.1 rfl
   have q1:=cell_at (o:=1) HF.out.1 rfl
   have q2:=cell_at (o:=2) HF.out.1 rfl
   have q3:=cell_at (o:=3) HF.out.1 rfl
   have q4:=cell_at (o:=4) HF.out.1 rfl
   have q5:=cell_at (o:=5) HF.out.1 rfl
   go_wp2
   have HE':=Lib.hid (ext_set (p:=⟨bf,5,none⟩) (.int .i64 2) HF.out.2 (ext_set (p:=⟨bf,4,none⟩) (.int .i64 32) HF.out.2 (ext_set (p:=⟨bf,3,none⟩) (.int .i64 2) HF.out.2 (ext_set (p:=⟨bf,2,none⟩) (.int .i64 30) HF.out.2 (ext_set (p:=⟨bf,1,none⟩) (.int .i64 30) HF.out.2 (ext_set (p:=⟨bf,0,none⟩) (.int .i64 0) HF.out.2 HE.out))))))
   have HF':=Lib.hid ((((((HF.out.set 0 (.int .i64 0)).set 1 (.int .i64 30)).set 2 (.int .i64 30)).set 3 (.int .i64 2)).set 4 (.int .i64 32)).set 5 (.int .i64 2))
   have HN':=Lib.hid ((((((HN.out.far ne2 0 (.int .i64 0)).far ne2 1 (.int .i64 30)).far ne2 2 (.int .i64 30)).far ne2 3 (.int .i64 2)).far ne2 4 (.int .i64 32)).far ne2 5 (.int .i64 2))
   refine mixQ_mk (over_of HE'.out) (ways_act 6 (by kernel_rfl) ?_)
   generalize ((((((Z4.setCell ⟨bf,0,none⟩ (.int .i64 0)).setCell ⟨bf,1,none⟩ (.int .i64 30)).setCell ⟨bf,2,none⟩ (.int .i64 30)).setCell ⟨bf,3,none⟩ (.int .i64 2)).setCell ⟨bf,4,none⟩ (.int .i64 32)).setCell ⟨bf,5,none⟩ (.int .i64 2)) = X1 at HE' HF' HN' ⊢
   clear HE HF HN fz q0 q1 q2 q3 q4 q5
   simp only [pickL,List.map_cons,List.map_nil,List.getD_cons_zero,List.getD_cons_succ]
   have fz:∀ o,X1.frozen? ⟨bn,o,none⟩ = false:=fun _ => free_at HN'.out.1
   have q0:=cell_at (o:=0) HN'.out.1 rfl
   have q1:=cell_at (o:=1) HN'.out.1 rfl
   have q2:=cell_at (o:=2) HN'.out.1 rfl
   go_wp2
   have HE:=Lib.hid (ext_set (p:=⟨bn,2,none⟩) (.int .u64 (U (bvI s.k))) HN'.out.2 (ext_set (p:=⟨bn,1,none⟩) (.int .u64 (U (bvI s.m))) HN'.out.2 (ext_set (p:=⟨bn,0,none⟩) (.int .u64 (U (bvI s.g))) HN'.out.2 HE'.out)))
   have HF:=Lib.hid (((HF'.out.far ne1 0 (.int .u64 (U (bvI s.g)))).far ne1 1 (.int .u64 (U (bvI s.m)))).far ne1 2 (.int .u64 (U (bvI s.k))))
   have HN:=Lib.hid (((HN'.out.set 0 (.int .u64 (U (bvI s.g)))).set 1 (.int .u64 (U (bvI s.m)))).set 2 (.int .u64 (U (bvI s.k))))
   refine mixQ_mk (over_of HE.out) (ways_end (by kernel_rfl) ?_)
   exact HREST bf bn _ HE.out HF.out HN.out
theorem word_any (s:St) (w:World):Calls Tryz.prog 22 #[stV s] w (Ret (.int .u64 (U s.word)) w):=by
 by_cases h:s.ok
 ·exact word_yes s h w
 ·exact word_none s h w
end Go.Proofs.YthjklbonebnekaaGreat

