/-
  What the call of wipe comes to. Conditions: those of each theorem.
-/
import Derived.Test.YthjklbonebnekaaGreatGar
import Derived.Test.YthjklbonebnekaaGreatGas
set_option maxRecDepth 8000
set_option maxHeartbeats 4000000
namespace Go.Proofs.YthjklbonebnekaaGreat
open Go Go.RowKit
theorem shL {l:List Acc} {t:List (BitVec 64)} {F:Nat → Prop} {v:Value} {w:World} (h:PA l t F v w):∃ (sa:Option Addr) (n c:Nat) (a:Acc) (fn:Value),v = .agg #[.slice sa n c,.int .i64 a.op,.int .i64 a.at_,.int .u64 (U a.a),.int .u64 (U a.b),fn,.pointer none] ∧ (fn = .nilFunc ∨ ∃ g caps,fn = .func (.func g) #[] caps):=by
 obtain ⟨sa,n,c,a,fn,rfl,hfn⟩:=h.shape
 exact ⟨sa,n,c,a,fn,rfl,hfn⟩
def AL (W:World) (l:List Acc) (v:Value) (w:World):Prop:=w.ownsRow W.heap.size 42 4 v l.length (l.flatMap A4) ∧ Ext W w
theorem AL.nil (W:World):AL W [] (.slice none 0 0) W:=⟨⟨rfl,.inl ⟨rfl,rfl⟩⟩,ext_refl W⟩
theorem a4_st (at_:Int):A4 (stA at_ 0#64) = [.int .i64 1,.int .i64 at_,.int .u64 0,.int .u64 0]:=by simp [A4,stA,U_0]
theorem own_extA {w w':World} {base:Nat} {e:TypeId} {size:Nat} {v:Value} {n:Nat} {xs:List Value} (h:w.ownsRow base e size v n xs) (hb:Ext w w'):w'.ownsRow base e size v n xs:=by
 obtain ⟨h1,h2⟩:=h
 refine ⟨h1,?_⟩
 rcases h2 with h2 | ⟨g,cap,cur,hv,hg,hh,r⟩
 ·exact .inl h2
 ·exact .inr ⟨g,cap,cur,hv,hg,by rw [hb.block g (hp_lt hh)];exact hh,r⟩
theorem wpList_acc {W u w:World} {ops:Array Oper} {rest:List Oper} {o:Oper} {a:Act} {Q:Exit → Act → World → Prop} (hgd:o.guard = none) (s y:Operand)
  (ho:o.op = .call { callee:=.builtin .append,args:=#[s,y],argTypes:=#[310,310] }) (v:Value) (l:List Acc) (at_:Int) (hs:a.eval s = v) (hv:AL W l v u)
  (hw:w = u.alloc (.cells #[.int .i64 1,.int .i64 at_,.int .u64 0,.int .u64 0] 42)) (hy:a.eval y = .slice (some ⟨u.heap.size,0,none⟩) 1 1) (hm:l.length ≤ 1000)
  (h:∀ v' w',AL W (l ++ [stA at_ 0#64]) v' w' → wpList Tryz.prog ops Q rest (a.put o.dst v') w'):wpList Tryz.prog ops Q (o :: rest) a w:=by
 subst hw
 obtain ⟨h1,h2⟩:=hv
 obtain ⟨iW,hi,hz0,hz1,hz2⟩:=info_parts Tryz.infoAcc
 have hb:=heap_at u (.cells #[.int .i64 1,.int .i64 at_,.int .u64 0,.int .u64 0] 42) u.heap.size rfl
 have hE:Ext W (u.alloc (.cells #[.int .i64 1,.int .i64 at_,.int .u64 0,.int .u64 0] 42)):=ext_alloc _ h2
 have hO:=own_extA h1 (ext_alloc (.cells #[.int .i64 1,.int .i64 at_,.int .u64 0,.int .u64 0] 42) (ext_refl u))
 have hnews:∀ j x,([.int .i64 1,.int .i64 at_,.int .u64 0,.int .u64 0]:List Value)[j]? = some x → (u.alloc (.cells #[.int .i64 1,.int .i64 at_,.int .u64 0,.int .u64 0] 42)).cell? ((⟨u.heap.size,0,none⟩ : Addr).add j) = some x:=by
  intro j x hj
  rw [add_at',Nat.zero_add]
  refine cell_at hb ?_
  rw [← hj]
  exact (Array.getElem?_toList).symm
 have hones:∀ x ∈ ([.int .i64 1,.int .i64 at_,.int .u64 0,.int .u64 0]:List Value),x.oneCell' = true:=by
  intro x hx
  simp at hx
  rcases hx with rfl | rfl | rfl <;> rfl
 refine wpList_append_own _ hgd s y 310 ho W.heap.size 42 iW _ 4 32 Tryz.underlying310 hi hz0 hz1 hz2 rfl (by decide) v l.length (l.flatMap A4) hs hO ⟨u.heap.size,0,none⟩ 1 1 _ hy rfl hnews hones (by unfold maxLen;omega) (by omega) (by have:=hE.size;omega) ?_
 intro v' w' hv' hg' _
 refine h v' w' ⟨?_,ext_own hE hO hg'⟩
 rw [List.flatMap_append,List.flatMap_cons,List.flatMap_nil,List.append_nil,a4_st,List.length_append]
 exact hv'
def WpRel (W:World) (L:List Int) (v i:Value) (wr:World):Prop:=∃ k:Nat,k ≤ L.length ∧ i = .int .i64 (k:Int) ∧ AL W ((L.take k).map fun at_ => stA at_ 0#64) v wr
theorem wipe_take (L:List Int) (k:Nat) (h:k < L.length):(L.take (k+1)).map (fun at_ => stA at_ 0#64) = (L.take k).map (fun at_ => stA at_ 0#64) ++ [stA (iN L k) 0#64]:=by
 rw [List.take_add_one,List.map_append,List.getElem?_eq_getElem h]
 simp [iN,List.getD_eq_getElem?_getD,h]
theorem wds_len (p:Pl) (n:Int):(p.wdsF n).length ≤ 3:=by
 unfold Pl.wdsF
 split <;> simp
theorem wipe_PA (p:Pl) (n:Int) (w:World):Calls Tryz.prog 263 #[plV p,.int .i64 n] w (RetP (PA (wipeL p n) []) noF w):=by
 have hL:=wds_len p n
 obtain ⟨L,eL⟩ : ∃ L,Hid (p.wdsF n = L):=⟨_,Lib.hid rfl⟩
 unfold wipeL
 rw [eL.out] at hL ⊢
 go_enter Tryz.func263,Tryz.ntmps263
 go_wp2_with (go_at_call 271;refine Hid.out ?_)
 refine Lib.hid ?_
 have ⟨hE,hb0,hb1,hW⟩:=al2 w (.cells #[.int .i64 p.n,.int .i64 p.t,.int .i64 p.r,.int .i64 p.d,.int .i64 p.b,.int .i64 p.g] 23) (.cells #[.slice none 0 0,.int .i64 0,.int .i64 0,.int .u64 0,.int .u64 0,.nilFunc,.pointer none] 303)
 generalize ((w.alloc (.cells #[.int .i64 p.n,.int .i64 p.t,.int .i64 p.r,.int .i64 p.d,.int .i64 p.b,.int .i64 p.g] 23)).alloc (.cells #[.slice none 0 0,.int .i64 0,.int .i64 0,.int .u64 0,.int .u64 0,.nilFunc,.pointer none] 303)) = W at hE hb0 hb1 hW ⊢
 refine (wds_any p n W).mono ?_
 rintro e w1 ⟨v0,rfl,hx,hI⟩
 replace hE:=ext_trans hE hx
 replace hb1:=(hx.block _ (heap_lt hb1)).trans hb1
 clear hx hb0 hW
 rw [eL.out] at hI
 have HI:=Lib.hid hI
 obtain ⟨a0,cap,rfl,hc,hcell⟩:=hI
 clear hcell
 have HE:=Lib.hid hE
 have HB:=Lib.hid hb1
 clear hE hb1
 go_wp2
 go_loopw [5,12] (fun v i wr => WpRel w1 L v i wr) (fun _ i _ => (L.length - intOf i).toNat)
 case atStart => exact ⟨0,Nat.zero_le _,rfl,AL.nil w1⟩
 case round =>
  obtain ⟨k,hk,rfl,hv⟩:=hrel
  have HV:=Lib.hid hv
  have hlA:((L.take k).map fun at_ => stA at_ 0#64).length ≤ 1000:=by simp;omega
  obtain ⟨va,vc,hvs⟩ : ∃ va vc,u5 = .slice va ((L.take k).map fun at_ => stA at_ 0#64).length vc:=by
   rcases hv.1.2 with ⟨rfl,h2⟩ | ⟨g,cap',cur,rfl,_⟩
   ·exact ⟨none,0,by rw [h2]⟩
   ·exact ⟨_,_,rfl⟩
  clear hv
  by_cases hlt:k < L.length
  ·obtain ⟨b,off,rfl,hb,hcells⟩:=(HI.out.ext HV.out.2).at (by omega)
   have c1:=hcells k hlt
   have bl:=cell_lt c1
   clear hcells
   have hlt':(k:Int) < L.length:=by omega
   have HT:=Lib.hid (wipe_take L k hlt)
   have HVS:=Lib.hid hvs
   clear hvs
   go_wp2_with (at_builtin;refine wpList_acc (W:=w1) rfl (.tmp 16) (.tmp 19) rfl _ ((L.take k).map fun at_ => stA at_ 0#64) (iN L k) rfl HV.out rfl rfl hlA ?_;intro v3 w3 hv3;rw [← HT.out] at hv3;have HV3:=Lib.hid hv3;clear hv3)
   exact ⟨⟨k+1,by omega,by go_num,HV3.out⟩,by simp [intOf];omega⟩
  ·obtain rfl:k = L.length:=by omega
   rw [List.take_length] at HV hvs
   rw [List.length_map] at hvs
   subst hvs
   go_wp2_with (go_at_call 272;refine Hid.out ?_)
   refine Lib.hid ?_
   have hb1:=(HV.out.2.block _ (heap_lt HB.out)).trans HB.out
   have hE:=ext_trans HE.out HV.out.2
   have hAs:AsB (fun _ => False) wr _ _:=asB_of_own HV.out.1 (fun _ h => h.elim)
   refine (listP_any _ _ wr hAs (by simp;omega)).mono ?_
   rintro e w' hR
   obtain ⟨v',F',rfl,hX,hp,hbn,hsub,hnF,hbq⟩:=hR.tail (G:=noF) (w.heap.size+1) hE (heap_lt hb1) (fun h => h) (fun _ h => h.elim)
   have hbx:=hbq.trans hb1
   clear hbq hR
   clear hE hb1 hAs HV HI HE HB
   obtain ⟨sa,sn,sc,a2,fn2,rfl,hfn⟩:=shL hp
   have hXX:=put7_ext (b:=w.heap.size+1) (.slice sa sn sc) (.int .i64 a2.op) (.int .i64 a2.at_) (.int .u64 (U a2.a)) (.int .u64 (U a2.b)) (fn2) (.pointer none) hX (by omega)
   have hB:=put7_block (.slice sa sn sc) (.int .i64 a2.op) (.int .i64 a2.at_) (.int .u64 (U a2.a)) (.int .u64 (U a2.b)) (fn2) (.pointer none) hbx
   have hP:=hp.agr (Agr.of_put7 (b:=w.heap.size+1) (.slice sa sn sc) (.int .i64 a2.op) (.int .i64 a2.at_) (.int .u64 (U a2.a)) (.int .u64 (U a2.b)) (fn2) (.pointer none) hnF)
   have hS:(put7 (w.heap.size+1) (.slice sa sn sc) (.int .i64 a2.op) (.int .i64 a2.at_) (.int .u64 (U a2.a)) (.int .u64 (U a2.b)) (fn2) (.pointer none) w').heap.size = w'.heap.size:=put7_size (.slice sa sn sc) (.int .i64 a2.op) (.int .i64 a2.at_) (.int .u64 (U a2.a)) (.int .u64 (U a2.b)) (fn2) (.pointer none)
   obtain ⟨c0,c1,c2,c3,c4,c5,c6,cz,ll⟩:=sev_of hbx
   rw [put7] at hXX hB hP hS
   have HX:=Lib.hid (And.intro hXX (And.intro hB (And.intro hP hS)))
   have HFN:=Lib.hid hfn
   have HBN:=Lib.hid hbn
   have HSUB:=Lib.hid hsub
   clear hXX hB hP hS hX hbx hp hfn hbn hsub hnF
   rcases HFN.out with rfl | ⟨g',caps',rfl⟩
   all_goals
    go_wp2
    clear c0 c1 c2 c3 c4 c5 c6 cz ll
    obtain ⟨hX,hB,hP,hS⟩:=HX.out
    clear HX
    generalize (World.setCell _ (⟨w.heap.size+1,6,none⟩ : Addr) _) = Z at hX hB hP hS ⊢
    obtain ⟨c0,c1,c2,c3,c4,c5,c6,cz,ll⟩:=sev_of hB
    exact bodyPost_ret (by simp only [results,Tryz.results263,go_sem];simp [go_sem,c0,c1,c2,c3,c4,c5,c6]) rfl ⟨_,F',rfl,hX,hP,fun j hj => by rw [hS];exact HBN.out j hj,HSUB.out⟩
theorem of_split_yes (x:BitVec 64) (h:U x < 17179869184):SplitSpec stL x [getN 0 30 x,getN 30 2 x,getN 32 2 x] 0:=⟨fun hn => absurd stL_lay hn,fun _ hn => absurd ((st_out x).2 h) hn,fun _ _ => ⟨(st_split x).symm,rfl⟩⟩
theorem of_split_no (x:BitVec 64) (h:¬ U x < 17179869184):SplitSpec stL x [] 10:=⟨fun hn => absurd stL_lay hn,fun _ _ => ⟨rfl,rfl⟩,fun _ hz => absurd ((st_out x).1 hz) h⟩
theorem ofS_no (x:BitVec 64) (h:¬ isW x):ofS x = ⟨0,0,0⟩:=by unfold ofS;rw [if_neg h]
theorem ofS_yes (x:BitVec 64) (h:isW x):ofS x = stN x:=by unfold ofS;rw [if_pos h]
theorem stN_in (x:BitVec 64):0 ≤ (stN x).g ∧ (stN x).g ≤ 1073741823 ∧ 0 ≤ (stN x).m ∧ (stN x).m ≤ 3 ∧ 0 ≤ (stN x).k ∧ (stN x).k ≤ 3:=by
 unfold stN
 dsimp only
 omega
theorem of_cells {x:BitVec 64} {X:World} {v:Value} (h:Us X v [getN 0 30 x,getN 30 2 x,getN 32 2 x]):∃ b off cap,v = .slice (some ⟨b,off,none⟩) 3 cap ∧ b < X.heap.size ∧ X.cell? ⟨b,off,none⟩ = some (.int .u64 (stN x).g) ∧ X.cell? ⟨b,off+1,none⟩ = some (.int .u64 (stN x).m) ∧
  X.cell? ⟨b,off+2,none⟩ = some (.int .u64 (stN x).k):=by
 obtain ⟨a0,cap,rfl,hc,hr⟩:=h
 obtain ⟨b,off,rfl,hb,hcell⟩:=hr (Nat.succ_pos _)
 refine ⟨b,off,cap,rfl,hb,?_,?_,?_⟩
 ·have e:X.cell? ⟨b,off,none⟩ = some (.int .u64 (U (getN 0 30 x))):=hcell 0 (Nat.succ_pos _)
  rw [e,U_get0];rfl
 ·have e:X.cell? ⟨b,off+1,none⟩ = some (.int .u64 (U (getN 30 2 x))):=hcell 1 (by simp)
  rw [e,U_get1];rfl
 ·have e:X.cell? ⟨b,off+2,none⟩ = some (.int .u64 (U (getN 32 2 x))):=hcell 2 (by simp)
  rw [e,U_get2];rfl
theorem of_none (x:BitVec 64) (h:¬ U x < 17179869184) (w:World):Calls Tryz.prog 101 #[.int .u64 (U x)] w (Ret (.tuple #[stV ⟨0,0,0⟩,.bool false]) w):=by
 have HS:=Lib.hid (of_split_no x h)
 clear h
 go_enter Tryz.func101,Tryz.ntmps101
 go_wp2_with (first | (go_at_call 80;refine (slayout_any _).mono ?_;rintro e w' hr;obtain ⟨rfl,s0,rfl⟩:=hr.over;clear hr) | (go_at_call 173;refine Hid.out ?_))
 rename_i K2 hK2 K hK
 refine Lib.hid ?_
 refine (split_any stL _ x _ _ _ HS (by decide) (made_fs (Made.mk fC 169 (ext_refl _)))).mono ?_
 rintro e w' hr
 obtain ⟨sv,rfl,s2,rfl,HU⟩:=hr.over
 clear hr
 have HX:=Lib.hid (ext_over s2 (ext_alloc (.cells fC 169) (ext_over s0 (ext_alloc (.cells #[.int .i64 0,.int .i64 0,.int .i64 0] 56) (ext_refl w)))))
 have HR:Hid (Made w w.heap.size #[.int .i64 0,.int .i64 0,.int .i64 0] 56 (over ((over (w.alloc (.cells #[.int .i64 0,.int .i64 0,.int .i64 0] 56)) s0).alloc (.cells fC 169)) s2)):=Lib.hid ((((Made.mk #[.int .i64 0,.int .i64 0,.int .i64 0] 56 (ext_refl w)).over s0).alloc _).over s2)
 generalize over ((over (w.alloc (.cells #[.int .i64 0,.int .i64 0,.int .i64 0] 56)) s0).alloc (.cells fC 169)) s2 = X at HX HR HU ⊢
 generalize (over (w.alloc (.cells #[.int .i64 0,.int .i64 0,.int .i64 0] 56)) s0).heap.size = bf
 generalize hbR:w.heap.size = bR at HR ⊢
 have lR:=hp_lt HR.out.1
 have fR:∀ o,X.frozen? ⟨bR,o,none⟩ = false:=fun _ => free_at HR.out.1
 have r0:=cell_at (o:=0) HR.out.1 rfl
 have r1:=cell_at (o:=1) HR.out.1 rfl
 have r2:=cell_at (o:=2) HR.out.1 rfl
 clear HU
 go_wp2
 have HE9:=Lib.hid (ext_set (p:=⟨bR,2,none⟩) (.int .i64 0) HR.out.2 (ext_set (p:=⟨bR,1,none⟩) (.int .i64 0) HR.out.2 (ext_set (p:=⟨bR,0,none⟩) (.int .i64 0) HR.out.2 HX.out)))
 have HR9:Hid (Made w bR #[.int .i64 0,.int .i64 0,.int .i64 0] 56 (((X.setCell ⟨bR,0,none⟩ (.int .i64 0)).setCell ⟨bR,1,none⟩ (.int .i64 0)).setCell ⟨bR,2,none⟩ (.int .i64 0))):=Lib.hid (((HR.out.set 0 (.int .i64 0)).set 1 (.int .i64 0)).set 2 (.int .i64 0))
 generalize (((X.setCell ⟨bR,0,none⟩ (.int .i64 0)).setCell ⟨bR,1,none⟩ (.int .i64 0)).setCell ⟨bR,2,none⟩ (.int .i64 0)) = Z9 at HE9 HR9 ⊢
 have z0:=cell_at (o:=0) HR9.out.1 rfl
 have z1:=cell_at (o:=1) HR9.out.1 rfl
 have z2:=cell_at (o:=2) HR9.out.1 rfl
 simp only [List.getElem_toArray,List.getElem_cons_zero,List.getElem_cons_succ] at z0 z1 z2
 exact bodyPost_ret (v:=.tuple #[stV ⟨0,0,0⟩,.bool false]) (by simp [results,Tryz.results101,go_sem,z0,z1,z2]) rfl (Ret.mk HE9.out)
theorem of_yes (x:BitVec 64) (s:St) (hs:Hid (s = stN x)) (h:U x < 17179869184) (HO:Hid s.ok) (w:World):Calls Tryz.prog 101 #[.int .u64 (U x)] w (Ret (.tuple #[stV s,.bool true]) w):=by
 have HS:=Lib.hid (of_split_yes x h)
 clear h
 go_enter Tryz.func101,Tryz.ntmps101
 go_wp2_with (first | (go_at_call 80;refine (slayout_any _).mono ?_;rintro e w' hr;obtain ⟨rfl,s0,rfl⟩:=hr.over;clear hr) | (go_at_call 173;refine Hid.out ?_))
 rename_i K2 hK2 K hK
 refine Lib.hid ?_
 refine (split_any stL _ x _ _ _ HS (by decide) (made_fs (Made.mk fC 169 (ext_refl _)))).mono ?_
 rintro e w' hr
 obtain ⟨sv,rfl,s2,rfl,HU⟩:=hr.over
 clear hr
 have HX:=Lib.hid (ext_over s2 (ext_alloc (.cells fC 169) (ext_over s0 (ext_alloc (.cells #[.int .i64 0,.int .i64 0,.int .i64 0] 56) (ext_refl w)))))
 have HR:Hid (Made w w.heap.size #[.int .i64 0,.int .i64 0,.int .i64 0] 56 (over ((over (w.alloc (.cells #[.int .i64 0,.int .i64 0,.int .i64 0] 56)) s0).alloc (.cells fC 169)) s2)):=Lib.hid ((((Made.mk #[.int .i64 0,.int .i64 0,.int .i64 0] 56 (ext_refl w)).over s0).alloc _).over s2)
 generalize over ((over (w.alloc (.cells #[.int .i64 0,.int .i64 0,.int .i64 0] 56)) s0).alloc (.cells fC 169)) s2 = X at HX HR HU ⊢
 generalize (over (w.alloc (.cells #[.int .i64 0,.int .i64 0,.int .i64 0] 56)) s0).heap.size = bf
 generalize hbR:w.heap.size = bR at HR ⊢
 have lR:=hp_lt HR.out.1
 have fR:∀ o,X.frozen? ⟨bR,o,none⟩ = false:=fun _ => free_at HR.out.1
 have r0:=cell_at (o:=0) HR.out.1 rfl
 have r1:=cell_at (o:=1) HR.out.1 rfl
 have r2:=cell_at (o:=2) HR.out.1 rfl
 obtain ⟨b,off,cap,rfl,hb,c0,c1,c2⟩:=of_cells HU.out
 clear HU
 obtain ⟨b1,b2,b3,b4,b5,b6⟩:=stN_in x
 rw [← hs.out] at c0 c1 c2 b1 b2 b3 b4 b5 b6
 clear hs
 go_wp2
 refine wp_region_mix (fun y => ∃ s,y = over X s) [(0,[0,1,2,3,4,5,6,7,8,9,10,11,12]),(1,[13]),(1,[14])] (by kernel_rfl) (by kernel_rfl) (over_of (ext_drew (ext_refl X))) ?_
 simp only [pieces,pickL,List.map_cons,List.map_nil,List.getD_cons_zero,List.getD_cons_succ]
 refine mix_reads ?_
 repeat (go_big_quiet_step (fail))
 refine wpQuiet_nil (mix_acts ?_)
 go_wp2
 have HX1:=Lib.hid (ext_drew (ext_alloc (.cells #[.int .i64 0,.int .i64 0,.int .i64 0] 56) (ext_refl X)))
 have HQ:Hid (Made X X.heap.size #[.int .i64 0,.int .i64 0,.int .i64 0] 56 (X.alloc (.cells #[.int .i64 0,.int .i64 0,.int .i64 0] 56)).drew):=Lib.hid ⟨hp_at _ _ _ rfl,Nat.le_refl _⟩
 refine mixQ_mk (over_of HX1.out) (mix_acts ?_)
 generalize (X.alloc (.cells #[.int .i64 0,.int .i64 0,.int .i64 0] 56)).drew = X1 at HX1 HQ ⊢
 generalize hbq:X.heap.size = bq at HQ ⊢
 have fq:∀ o,X1.frozen? ⟨bq,o,none⟩ = false:=fun _ => free_at HQ.out.1
 have q0:=cell_at (o:=0) HQ.out.1 rfl
 have q1:=cell_at (o:=1) HQ.out.1 rfl
 have q2:=cell_at (o:=2) HQ.out.1 rfl
 go_wp2
 have HX2:=Lib.hid (ext_set (p:=⟨bq,2,none⟩) (.int .i64 s.k) HQ.out.2 (ext_set (p:=⟨bq,1,none⟩) (.int .i64 s.m) HQ.out.2 (ext_set (p:=⟨bq,0,none⟩) (.int .i64 s.g) HQ.out.2 HX1.out)))
 have HQ2:Hid (Made X bq #[.int .i64 s.g,.int .i64 s.m,.int .i64 s.k] 56 (((X1.setCell ⟨bq,0,none⟩ (.int .i64 s.g)).setCell ⟨bq,1,none⟩ (.int .i64 s.m)).setCell ⟨bq,2,none⟩ (.int .i64 s.k))):=Lib.hid (((HQ.out.set 0 (.int .i64 s.g)).set 1 (.int .i64 s.m)).set 2 (.int .i64 s.k))
 refine mixQ_mk (over_of HX2.out) (mix_end ?_)
 generalize (((X1.setCell ⟨bq,0,none⟩ (.int .i64 s.g)).setCell ⟨bq,1,none⟩ (.int .i64 s.m)).setCell ⟨bq,2,none⟩ (.int .i64 s.k)) = X2 at HX2 HQ2 ⊢
 clear HX1 HQ fq q0 q1 q2 r0 r1 r2 fR c0 c1 c2
 have q0:=cell_at (o:=0) HQ2.out.1 rfl
 have q1:=cell_at (o:=1) HQ2.out.1 rfl
 have q2:=cell_at (o:=2) HQ2.out.1 rfl
 simp only [List.getElem_toArray,List.getElem_cons_zero,List.getElem_cons_succ] at q0 q1 q2
 have lq:=hp_lt HQ2.out.1
 have HR2:=Lib.hid (HR.out.ext HX2.out)
 have HXX:=Lib.hid (ext_trans HX.out HX2.out)
 have fR:∀ o,X2.frozen? ⟨bR,o,none⟩ = false:=fun _ => free_at HR2.out.1
 have r0:=cell_at (o:=0) HR2.out.1 rfl
 have r1:=cell_at (o:=1) HR2.out.1 rfl
 have r2:=cell_at (o:=2) HR2.out.1 rfl
 have lR2:=hp_lt HR2.out.1
 have nq:bq ≠ bR:=(by subst hbq;exact Nat.ne_of_gt lR)
 have nq2:=Ne.symm nq
 go_wp2_with (go_at_call 63;refine (sformed_yes s HO.out _).mono ?_;rintro e w' hr;obtain ⟨rfl,s3,rfl⟩:=hr.over;clear hr)
 have HE9:=Lib.hid (ext_set (p:=⟨bR,2,none⟩) (.int .i64 s.k) HR.out.2 (ext_set (p:=⟨bR,1,none⟩) (.int .i64 s.m) HR.out.2 (ext_set (p:=⟨bR,0,none⟩) (.int .i64 s.g) HR.out.2 (ext_over s3 HXX.out))))
 have HR9:Hid (Made w bR #[.int .i64 s.g,.int .i64 s.m,.int .i64 s.k] 56 ((((over X2 s3).setCell ⟨bR,0,none⟩ (.int .i64 s.g)).setCell ⟨bR,1,none⟩ (.int .i64 s.m)).setCell ⟨bR,2,none⟩ (.int .i64 s.k))):=Lib.hid ((((HR2.out.over s3).set 0 (.int .i64 s.g)).set 1 (.int .i64 s.m)).set 2 (.int .i64 s.k))
 generalize ((((over X2 s3).setCell ⟨bR,0,none⟩ (.int .i64 s.g)).setCell ⟨bR,1,none⟩ (.int .i64 s.m)).setCell ⟨bR,2,none⟩ (.int .i64 s.k)) = Z9 at HE9 HR9 ⊢
 have z0:=cell_at (o:=0) HR9.out.1 rfl
 have z1:=cell_at (o:=1) HR9.out.1 rfl
 have z2:=cell_at (o:=2) HR9.out.1 rfl
 simp only [List.getElem_toArray,List.getElem_cons_zero,List.getElem_cons_succ] at z0 z1 z2
 exact bodyPost_ret (v:=.tuple #[stV s,.bool true]) (by simp [results,Tryz.results101,go_sem,z0,z1,z2]) rfl (Ret.mk HE9.out)
theorem of_odd (x:BitVec 64) (s:St) (hs:Hid (s = stN x)) (h:U x < 17179869184) (HO:Hid (¬ s.ok)) (w:World):Calls Tryz.prog 101 #[.int .u64 (U x)] w (Ret (.tuple #[stV ⟨0,0,0⟩,.bool false]) w):=by
 have HS:=Lib.hid (of_split_yes x h)
 clear h
 go_enter Tryz.func101,Tryz.ntmps101
 go_wp2_with (first | (go_at_call 80;refine (slayout_any _).mono ?_;rintro e w' hr;obtain ⟨rfl,s0,rfl⟩:=hr.over;clear hr) | (go_at_call 173;refine Hid.out ?_))
 rename_i K2 hK2 K hK
 refine Lib.hid ?_
 refine (split_any stL _ x _ _ _ HS (by decide) (made_fs (Made.mk fC 169 (ext_refl _)))).mono ?_
 rintro e w' hr
 obtain ⟨sv,rfl,s2,rfl,HU⟩:=hr.over
 clear hr
 have HX:=Lib.hid (ext_over s2 (ext_alloc (.cells fC 169) (ext_over s0 (ext_alloc (.cells #[.int .i64 0,.int .i64 0,.int .i64 0] 56) (ext_refl w)))))
 have HR:Hid (Made w w.heap.size #[.int .i64 0,.int .i64 0,.int .i64 0] 56 (over ((over (w.alloc (.cells #[.int .i64 0,.int .i64 0,.int .i64 0] 56)) s0).alloc (.cells fC 169)) s2)):=Lib.hid ((((Made.mk #[.int .i64 0,.int .i64 0,.int .i64 0] 56 (ext_refl w)).over s0).alloc _).over s2)
 generalize over ((over (w.alloc (.cells #[.int .i64 0,.int .i64 0,.int .i64 0] 56)) s0).alloc (.cells fC 169)) s2 = X at HX HR HU ⊢
 generalize (over (w.alloc (.cells #[.int .i64 0,.int .i64 0,.int .i64 0] 56)) s0).heap.size = bf
 generalize hbR:w.heap.size = bR at HR ⊢
 have lR:=hp_lt HR.out.1
 have fR:∀ o,X.frozen? ⟨bR,o,none⟩ = false:=fun _ => free_at HR.out.1
 have r0:=cell_at (o:=0) HR.out.1 rfl
 have r1:=cell_at (o:=1) HR.out.1 rfl
 have r2:=cell_at (o:=2) HR.out.1 rfl
 obtain ⟨b,off,cap,rfl,hb,c0,c1,c2⟩:=of_cells HU.out
 clear HU
 obtain ⟨b1,b2,b3,b4,b5,b6⟩:=stN_in x
 rw [← hs.out] at c0 c1 c2 b1 b2 b3 b4 b5 b6
 clear hs
 go_wp2
 refine wp_region_mix (fun y => ∃ s,y = over X s) [(0,[0,1,2,3,4,5,6,7,8,9,10,11,12]),(1,[13]),(1,[14])] (by kernel_rfl) (by kernel_rfl) (over_of (ext_drew (ext_refl X))) ?_
 simp only [pieces,pickL,List.map_cons,List.map_nil,List.getD_cons_zero,List.getD_cons_succ]
 refine mix_reads ?_
 repeat (go_big_quiet_step (fail))
 refine wpQuiet_nil (mix_acts ?_)
 go_wp2
 have HX1:=Lib.hid (ext_drew (ext_alloc (.cells #[.int .i64 0,.int .i64 0,.int .i64 0] 56) (ext_refl X)))
 have HQ:Hid (Made X X.heap.size #[.int .i64 0,.int .i64 0,.int .i64 0] 56 (X.alloc (.cells #[.int .i64 0,.int .i64 0,.int .i64 0] 56)).drew):=Lib.hid ⟨hp_at _ _ _ rfl,Nat.le_refl _⟩
 refine mixQ_mk (over_of HX1.out) (mix_acts ?_)
 generalize (X.alloc (.cells #[.int .i64 0,.int .i64 0,.int .i64 0] 56)).drew = X1 at HX1 HQ ⊢
 generalize hbq:X.heap.size = bq at HQ ⊢
 have fq:∀ o,X1.frozen? ⟨bq,o,none⟩ = false:=fun _ => free_at HQ.out.1
 have q0:=cell_at (o:=0) HQ.out.1 rfl
 have q1:=cell_at (o:=1) HQ.out.1 rfl
 have q2:=cell_at (o:=2) HQ.out.1 rfl
 go_wp2
 have HX2:=Lib.hid (ext_set (p:=⟨bq,2,none⟩) (.int .i64 s.k) HQ.out.2 (ext_set (p:=⟨bq,1,none⟩) (.int .i64 s.m) HQ.out.2 (ext_set (p:=⟨bq,0,none⟩) (.int .i64 s.g) HQ.out.2 HX1.out)))
 have HQ2:Hid (Made X bq #[.int .i64 s.g,.int .i64 s.m,.int .i64 s.k] 56 (((X1.setCell ⟨bq,0,none⟩ (.int .i64 s.g)).setCell ⟨bq,1,none⟩ (.int .i64 s.m)).setCell ⟨bq,2,none⟩ (.int .i64 s.k))):=Lib.hid (((HQ.out.set 0 (.int .i64 s.g)).set 1 (.int .i64 s.m)).set 2 (.int .i64 s.k))
 refine mixQ_mk (over_of HX2.out) (mix_end ?_)
 generalize (((X1.setCell ⟨bq,0,none⟩ (.int .i64 s.g)).setCell ⟨bq,1,none⟩ (.int .i64 s.m)).setCell ⟨bq,2,none⟩ (.int .i64 s.k)) = X2 at HX2 HQ2 ⊢
 clear HX1 HQ fq q0 q1 q2 r0 r1 r2 fR c0 c1 c2
 have q0:=cell_at (o:=0) HQ2.out.1 rfl
 have q1:=cell_at (o:=1) HQ2.out.1 rfl
 have q2:=cell_at (o:=2) HQ2.out.1 rfl
 simp only [List.getElem_toArray,List.getElem_cons_zero,List.getElem_cons_succ] at q0 q1 q2
 have lq:=hp_lt HQ2.out.1
 have HR2:=Lib.hid (HR.out.ext HX2.out)
 have HXX:=Lib.hid (ext_trans HX.out HX2.out)
 have fR:∀ o,X2.frozen? ⟨bR,o,none⟩ = false:=fun _ => free_at HR2.out.1
 have r0:=cell_at (o:=0) HR2.out.1 rfl
 have r1:=cell_at (o:=1) HR2.out.1 rfl
 have r2:=cell_at (o:=2) HR2.out.1 rfl
 have lR2:=hp_lt HR2.out.1
 have nq:bq ≠ bR:=(by subst hbq;exact Nat.ne_of_gt lR)
 have nq2:=Ne.symm nq
 go_wp2_with (go_at_call 63;refine (sformed_no s HO.out _).mono ?_;rintro e w' hr;obtain ⟨rfl,s3,rfl⟩:=hr.over;clear hr)
 have HE9:=Lib.hid (ext_set (p:=⟨bR,2,none⟩) (.int .i64 0) HR.out.2 (ext_set (p:=⟨bR,1,none⟩) (.int .i64 0) HR.out.2 (ext_set (p:=⟨bR,0,none⟩) (.int .i64 0) HR.out.2 (ext_over s3 HXX.out))))
 have HR9:Hid (Made w bR #[.int .i64 0,.int .i64 0,.int .i64 0] 56 ((((over X2 s3).setCell ⟨bR,0,none⟩ (.int .i64 0)).setCell ⟨bR,1,none⟩ (.int .i64 0)).setCell ⟨bR,2,none⟩ (.int .i64 0))):=Lib.hid ((((HR2.out.over s3).set 0 (.int .i64 0)).set 1 (.int .i64 0)).set 2 (.int .i64 0))
 generalize ((((over X2 s3).setCell ⟨bR,0,none⟩ (.int .i64 0)).setCell ⟨bR,1,none⟩ (.int .i64 0)).setCell ⟨bR,2,none⟩ (.int .i64 0)) = Z9 at HE9 HR9 ⊢
 have z0:=cell_at (o:=0) HR9.out.1 rfl
 have z1:=cell_at (o:=1) HR9.out.1 rfl
 have z2:=cell_at (o:=2) HR9.out.1 rfl
 simp only [List.getElem_toArray,List.getElem_cons_zero,List.getElem_cons_succ] at z0 z1 z2
 exact bodyPost_ret (v:=.tuple #[stV ⟨0,0,0⟩,.bool false]) (by simp [results,Tryz.results101,go_sem,z0,z1,z2]) rfl (Ret.mk HE9.out)
theorem of_any (x:BitVec 64) (w:World):Calls Tryz.prog 101 #[.int .u64 (U x)] w (Ret (.tuple #[stV (ofS x),.bool (decide (isW x))]) w):=by
 by_cases h:isW x
 ·rw [ofS_yes x h,decide_eq_true h]
  exact of_yes x _ (Lib.hid rfl) h.1 (Lib.hid h.2) w
 ·rw [ofS_no x h,decide_eq_false h]
  by_cases c:U x < 17179869184
  ·exact of_odd x _ (Lib.hid rfl) c (Lib.hid fun k => h ⟨c,k⟩) w
  ·exact of_none x c w
end Go.Proofs.YthjklbonebnekaaGreat

