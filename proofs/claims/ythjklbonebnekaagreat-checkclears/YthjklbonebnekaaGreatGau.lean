/-
  Whole runs of Pop, Push and Fresh, in plain numbers. Conditions: a formed plan; fewer swaps than a tag can tell.
-/
import Derived.Test.YthjklbonebnekaaGreatGaa
import Derived.Test.YthjklbonebnekaaGreatGac
import Derived.Test.YthjklbonebnekaaGreatGal
import Derived.Test.YthjklbonebnekaaGreatGar
import Derived.ArgAppend
import Derived.OwnWalk
set_option maxRecDepth 8000
set_option maxHeartbeats 4000000
namespace Go.Proofs.YthjklbonebnekaaGreat
open Go Go.RowKit
def Keeps (p:Pl) (M:MS) (T:Nat) (M':MS) (T':Nat) (w:Option Int):Prop:=∀ s:PS,(∀ n,w = some n → s.node ≠ some n) → Th p M T s → Th p M' T' s
theorem Nxt.keeps {p:Pl} (hp:p.ok) {M:MS} {l:List Int} {T N:Nat} {s:PS} {M':MS} {l':List Int} {T' N':Nat} {s':PS} (hL:FL p M l T) (h:Nxt p M l T N s M' l' T' N' s') (hs:∀ n,s.node = some n → n ∉ l):Keeps p M T M' T' s.node:=
 fun _ hq ht => Th.frame hp hL h.fl h.ef (fun n hn => ⟨hs n hn,hq n hn⟩) ht
theorem Keeps.trans {p:Pl} {M M' M'':MS} {T T' T'':Nat} {w:Option Int} (h:Keeps p M T M' T' w) (k:Keeps p M' T' M'' T'' w):Keeps p M T M'' T'' w:=fun s hs ht => k s hs (h s hs ht)
theorem pop_none {p:Pl} (hp:p.ok) {M:MS} {T:Nat} (hL:FL p M [] T) (N k:Nat) :
  ∃ M',runT 0 1#64 (k+1) (popT p (N+1)) M = some (M',1,.done (-1)) ∧ FL p M' [] T ∧ Keeps p M T M' T none:=by
 obtain ⟨M',s',h1,h2,_,h4⟩:=go_pl (N:=N) hp hL
 have e:=h2 rfl
 subst e
 refine ⟨M',?_,h1.fl,Nxt.keeps hp hL h1 (fun n h => by cases h)⟩
 have:=runT_step h1.st k
 rw [show popT p (N+1) = trT p N .pl from rfl,this]
 cases k <;> rfl
theorem pop_some {p:Pl} (hp:p.ok) {M:MS} {n:Int} {l:List Int} {T:Nat} (hL:FL p M (n :: l) T) (hT:T < 8796093022207) (N k:Nat) :
  ∃ M',runT 0 1#64 (k+3) (popT p (N+2)) M = some (M',3,.done n) ∧ FL p M' l (T+1) ∧ Keeps p M T M' (T+1) none:=by
 obtain ⟨M1,s1,a1,_,a3,a4⟩:=go_pl (N:=N+1) hp hL
 have e:=a3 (by simp)
 subst e
 obtain ⟨M2,nx,b1,b2⟩:=go_pn (N:=N+1) hp a1.fl a1.th
 obtain ⟨M3,l3,T3,N3,s3,c1,c2⟩:=go_ps (N:=N) hp b1.fl hT b1.th
 have hh:M.wd 0 0 = M2.wd 0 0:=by rw [b2,a4]
 have k1:=Nxt.keeps hp hL a1 (fun n h => by cases h)
 have k2:=Nxt.keeps hp a1.fl b1 (fun n h => by cases h)
 have k3:=Nxt.keeps hp b1.fl c1 (fun n h => by cases h)
 rcases c2 with ⟨m,d1,rfl,rfl,d4⟩ | ⟨_,_,_,d4⟩
 ·simp at d1
  obtain ⟨rfl,rfl⟩:=d1
  refine ⟨M3,?_,c1.fl,(Keeps.trans k1 k2).trans k3⟩
  rw [show popT p (N+2) = trT p (N+1) .pl from rfl,runT_step a1.st,runT_step b1.st,runT_step c1.st]
  cases k <;> rfl
 ·exact absurd hh d4
theorem push_run {p:Pl} (hp:p.ok) {M:MS} {n:Int} {l:List Int} {T:Nat} (hL:FL p M l T) (hT:T < 8796093022207) (hn:InR p n) (hnl:n ∉ l) (N k:Nat) :
  ∃ M',runT 0 1#64 (k+3) (pushT p n (N+2)) M = some (M',3,.done n) ∧ FL p M' (n :: l) (T+1) ∧ Keeps p M T M' (T+1) (some n):=by
 obtain ⟨M1,h,a1,a2,a4⟩:=go_ql (N:=N+1) hp hL hn
 obtain ⟨M2,b1,b2⟩:=go_qs (N:=N+1) hp a1.fl a1.th hnl
 obtain ⟨M3,l3,T3,N3,s3,c1,c2⟩:=go_qw (N:=N) hp b1.fl hT b1.th hnl
 have hh:h = M2.wd 0 0:=by rw [b2,a4,a2]
 have k1:=Nxt.keeps hp hL a1 (fun m h => by cases h;exact hnl)
 have k2:=Nxt.keeps hp a1.fl b1 (fun m h => by cases h;exact hnl)
 have k3:=Nxt.keeps hp b1.fl c1 (fun m h => by cases h;exact hnl)
 rcases c2 with ⟨rfl,rfl,rfl,_⟩ | ⟨_,_,_,d4⟩
 ·refine ⟨M3,?_,c1.fl,(Keeps.trans k1 k2).trans k3⟩
  rw [show pushT p n (N+2) = trT p (N+1) (.ql n) from rfl,runT_step a1.st,runT_step b1.st,runT_step c1.st]
  cases k <;> rfl
 ·exact absurd hh d4
def rfr:Nat → Int → List Int
 | 0,_ => []
 | k+1,j => j :: rfr k (j+1)
theorem rfr_len:∀ (k:Nat) (j:Int),(rfr k j).length = k
 | 0,_ => rfl
 | k+1,j => by simp [rfr,rfr_len k (j+1)]
theorem rfr_mem:∀ {k:Nat} {j m:Int},m ∈ rfr k j ↔ j ≤ m ∧ m < j+k
 | 0,j,m => by
  constructor
  ·intro h;cases h
  ·intro h;omega
 | k+1,j,m => by
  simp only [rfr,List.mem_cons,rfr_mem (k:=k) (j:=j+1)]
  omega
theorem rfr_nodup:∀ (k:Nat) (j:Int),(rfr k j).Nodup
 | 0,_ => List.nodup_nil
 | k+1,j => List.nodup_cons.2 ⟨fun h => by have:=(rfr_mem.1 h).1;omega,rfr_nodup k (j+1)⟩
theorem fresh_run {p:Pl} (hp:p.ok):∀ (k:Nat) (n:Int) (M:MS),0 ≤ n → n+k = p.n → Mg p M →
  ∃ M',runT 0 1#64 (k+1) (freshT p k n) M = some (M',k+1,.done ()) ∧ Mg p M' ∧ M'.wd 0 0 = putN 0 21 0#64 (nameW 0) ∧ (∀ m,InR p m → n ≤ m → M'.wd 0 (nxN p m) = fnxW p m) ∧ (∀ m,InR p m → m < n → M'.wd 0 (nxN p m) = M.wd 0 (nxN p m))
 | 0,n,M,h0,h1,hM => by
  have hz:=head_zero hp
  have hok:DoOk M 0 1#64 1 p.headF:=by rw [hz];exact hM.ok (by omega) (by have:=size_pos hp;omega) (by omega) (by omega)
  have hw:=wd_store M p.headF (putN 0 21 0#64 (nameW 0)) 0#64
  refine ⟨M.done 0 1 p.headF (putN 0 21 0#64 (nameW 0)) 0#64,?_,hM.done _ _ _ _ _,?_,fun m hm hnm => ?_,fun m hm _ => ?_⟩
  ·show runT 0 1#64 1 (.ask (stA p.headF _) _) M = _
   rw [runT,if_pos (show DoOk M 0 1#64 (stA p.headF _).op (stA p.headF _).at_ from hok)]
   rfl
  ·rw [hw,hz]
   rfl
  ·have:=hm.2
   omega
  ·rw [hw,hz]
   exact if_neg (nxN_pos hp hm)
 | k+1,n,M,h0,h1,hM => by
  have hn:InR p n:=⟨h0,by omega⟩
  have hx:=nx_in hp hn
  have hok:DoOk M 0 1#64 1 (p.nxF n):=hM.ok (by omega) hx.2 (by omega) (by omega)
  have hw:=wd_store M (p.nxF n) (fnxW p n) 0#64
  obtain ⟨M',r1,r2,r3,r4,r5⟩:=fresh_run hp k (n+1) (M.done 0 1 (p.nxF n) (fnxW p n) 0#64) (by omega) (by omega) (hM.done _ _ _ _ _)
  refine ⟨M',?_,r2,r3,fun m hm hnm => ?_,fun m hm hnm => ?_⟩
  ·show runT 0 1#64 (k+1+1) (.ask (stA (p.nxF n) _) _) M = _
   rw [runT,if_pos (show DoOk M 0 1#64 (stA (p.nxF n) _).op (stA (p.nxF n) _).at_ from hok)]
   show Option.map _ (runT 0 1#64 (k+1) (freshT p k (n+1)) (M.done 0 1 (p.nxF n) (fnxW p n) 0#64)) = _
   rw [r1]
   rfl
  ·by_cases e:m = n
   ·subst e
    rw [r5 m hm (by omega),hw]
    exact if_pos rfl
   ·exact r4 m hm (by omega)
  ·rw [r5 m hm (by omega),hw]
   exact if_neg fun e => by have:=nxN_inj hp hm hn e;omega
theorem fresh_ch {p:Pl} {M:MS} (h:∀ m,InR p m → M.wd 0 (nxN p m) = fnxW p m):∀ (k:Nat) (j:Int),0 ≤ j → j+k = p.n → Ch p M (rfr k j)
 | 0,_,_,_ => trivial
 | k+1,j,h0,h1 => by
  refine ⟨?_,fresh_ch h k (j+1) (by omega) (by omega)⟩
  rw [h j ⟨h0,by omega⟩]
  unfold fnxW
  cases k with
  | zero => rw [if_pos (by omega)];rfl
  | succ k => rw [if_neg (by omega)];rfl
theorem fresh_FL {p:Pl} (hp:p.ok) {M:MS} (hM:Mg p M):∃ M',runT 0 1#64 (p.n+1).toNat (freshT p p.n.toNat 0) M = some (M',p.n.toNat+1,.done ()) ∧ FL p M' (rfr p.n.toNat 0) 0:=by
 have h1:=hp.1
 obtain ⟨M',r1,r2,r3,r4,_⟩:=fresh_run hp p.n.toNat 0 M (by omega) (by omega) hM
 refine ⟨M',by rw [show (p.n+1).toNat = p.n.toNat+1 by omega];exact r1,r2,?_,?_,fresh_ch (fun m hm => r4 m hm hm.1) _ _ (by omega) (by omega),rfr_nodup _ _,fun m hm => ?_⟩
 ·rw [r3,nd_fresh]
  obtain ⟨k,hk⟩ : ∃ k,p.n.toNat = k+1:=⟨p.n.toNat - 1,by omega⟩
  rw [hk]
  rfl
 ·rw [r3,tag_fresh]
  rfl
 ·have:=rfr_mem.1 hm
  exact ⟨by omega,by omega⟩
theorem nodup_len:∀ (l m:List Int),l.Nodup → (∀ x ∈ l,x ∈ m) → l.length ≤ m.length
 | [],_,_,_ => Nat.zero_le _
 | x :: l,m,hn,hs => by
  have hx:=hs x (by simp)
  have h1:=List.nodup_cons.1 hn
  have h2:=nodup_len l (m.erase x) h1.2 fun y hy => by
   have hne:y ≠ x:=fun e => h1.1 (e ▸ hy)
   exact (List.mem_erase_of_ne hne).2 (hs y (by simp [hy]))
  have h3:=List.length_erase_of_mem hx
  have h4:=List.length_pos_of_mem hx
  simp only [List.length_cons]
  omega
theorem Mg.zero (p:Pl):Mg p (M0 [p.sizeF] 1):=⟨rfl,rfl,rfl⟩
theorem iN_snoc_lt (l:List Int) (y:Int) (i:Nat) (h:i < l.length):iN (l ++ [y]) i = iN l i:=by
 simp [iN,List.getD_eq_getElem?_getD,List.getElem?_append_left h]
theorem iN_snoc_eq (l:List Int) (y:Int):iN (l ++ [y]) l.length = y:=by
 simp [iN,List.getD_eq_getElem?_getD]
theorem newy (w:World) (x:Value) (t:TypeId) (b:Nat) (hb:b = w.heap.size):(w.alloc (.cells #[x] t)).cell? ⟨b,0,none⟩ = some x:=by
 subst hb
 exact cell_at (hp_at w _ _ rfl) rfl
theorem fnx_any (p:Pl) (n:Int) (h0:0 ≤ n) (h1:n < p.n) (h2:p.n ≤ 1048576) (w:World):Calls Tryz.prog 212 #[plV p,.int .i64 n] w (Ret (.int .u64 (U (fnxW p n))) w):=by
 have e1:wrap64 (p.n - 1) = p.n - 1:=by unfold wrap64;omega
 have e2:wrap64 (n+1) = n+1:=by unfold wrap64;omega
 by_cases hn:n = p.n - 1
 ·have e3:fnxW p n = 0#64:=by unfold fnxW;rw [if_pos hn]
  rw [e3,U_0]
  clear e2 e3
  go_enter Tryz.func212,Tryz.ntmps212
  go_wp2
  go_ret
  exact Ret.mk (by repeat (first | exact ext_refl _ | apply ext_alloc))
 ·have e3:fnxW p n = nameW (n+1):=by unfold fnxW;rw [if_neg hn]
  rw [e3]
  clear e3
  go_enter Tryz.func212,Tryz.ntmps212
  go_wp2_with (go_at_call 210;refine Hid.out ?_)
  refine Lib.hid ?_
  refine (name_any (n+1) (by omega) (by omega) _).mono ?_
  rintro e w1 ⟨rfl,hx⟩
  have HX:=Lib.hid (ext_trans (show Ext w _ by repeat (first | exact ext_refl _ | apply ext_alloc)) hx)
  clear hx
  go_wp2
  go_ret
  exact Ret.mk HX.out
theorem fresh1_PT (p:Pl) (n:Int) (t:Tr Unit) (B1 B2:Nat) (w:World) (e2:wrap64 (n+1) = n+1) (hB:PBox B1 p w) (k2:w.heap[B2]? = some (.cells #[.int .i64 n] 3 (0,0))) (hN:∀ W,Calls Tryz.prog 136 #[plV p,.int .i64 (n+1)] W (RetP (PT kN t) noF W)) :
  Calls Tryz.prog 213 #[.agg #[],.pointer (some ⟨B1,0,none⟩),.pointer (some ⟨B2,0,none⟩)] w (RetP (PT kN t) noF w):=by
 have d2:=cell_at (o:=0) k2 rfl
 have l2:=cell_lt d2
 clear k2
 have ⟨c0,c1,c2,c3,c4,c5,lt⟩:=hB.plc
 replace hB:=Lib.hid hB
 replace hN:=Lib.hid hN
 go_enter Tryz.func213,Tryz.ntmps213
 go_wp2_with (go_at_call 136;refine Hid.out ?_)
 refine Lib.hid ?_
 have ⟨hE,hb0,hb1,hW⟩:=al2 w (.cells #[] 132) (.cells #[.int .i64 0,.int .i64 0,.int .u64 0,.int .u64 0,.nilFunc,.pointer none] 137)
 generalize ((w.alloc (.cells #[] 132)).alloc (.cells #[.int .i64 0,.int .i64 0,.int .u64 0,.int .u64 0,.nilFunc,.pointer none] 137)) = W at hE hb0 hb1 hW ⊢
 refine (hN.out W).mono ?_
 rintro e w' hR
 obtain ⟨v',F',rfl,hX,hp,hbn,hsub,hnF,hbq⟩:=hR.tail (G:=noF) (w.heap.size+1) hE (heap_lt hb1) (fun h => h) (fun _ h => h.elim)
 have hbx:=hbq.trans hb1
 clear hbq hR
 clear hE hb0 hb1 hW c0 c1 c2 c3 c4 c5 lt hN hB d2 l2
 obtain ⟨a2,fn2,rfl,HFN,HX⟩:=tlN hp hX hbx hbn hsub hnF (by omega)
 obtain ⟨c0,c1,c2,c3,c4,c5,cz,ll⟩:=six_of hbx
 clear hX hbx hp hbn hsub hnF
 rcases HFN.out with rfl | ⟨g',caps',rfl⟩
 all_goals
  go_wp2
  clear c0 c1 c2 c3 c4 c5 cz ll
  obtain ⟨hX,hB,hP⟩:=HX.out
  clear HX
  generalize (World.setCell _ (⟨w.heap.size+1,5,none⟩ : Addr) _) = Z at hX hB hP ⊢
  obtain ⟨c0,c1,c2,c3,c4,c5,cz,ll⟩:=six_of hB
  exact bodyPost_ret (by simp only [results,Tryz.results213,go_sem];simp [go_sem,c0,c1,c2,c3,c4,c5]) rfl ⟨_,F',rfl,hX,hP⟩
theorem fresh1_CT (p:Pl) (n:Int) (t:Tr Unit) (B1 B2:Nat) (w:World) (e2:wrap64 (n+1) = n+1) (hB:PBox B1 p w) (k2:w.heap[B2]? = some (.cells #[.int .i64 n] 3 (0,0))) (hN:∀ W,Calls Tryz.prog 136 #[plV p,.int .i64 (n+1)] W (RetP (PT kN t) noF W)) :
  CT kN kN (fun _ => t) (fun j => j = B1 ∨ j = B2) (.func (.func 213) #[] #[.pointer (some ⟨B1,0,none⟩),.pointer (some ⟨B2,0,none⟩)]) w:=
 ⟨_,_,rfl,enters_of Tryz.func213 (by kernel_rfl) rfl,fun _ w' ha => (fresh1_PT p n t B1 B2 w' e2 ((ha B1 (.inl rfl)).trans hB) ((ha B2 (.inr rfl)).trans k2) hN).mono fun _ _ h => h.mono fun _ h => h.elim⟩
theorem fresh_end (p:Pl) (n:Int) (h1:¬ n < p.n) (w:World):Calls Tryz.prog 136 #[plV p,.int .i64 n] w (RetP (PT kN (freshT p 0 n)) noF w):=by
 go_enter Tryz.func136,Tryz.ntmps136
 go_wp2_with (go_at_call 91;refine Hid.out ?_)
 refine Lib.hid ?_
 have ⟨hE,hb0,hb1,hb2,hW⟩:=al3 w (.cells #[.int .i64 p.n,.int .i64 p.t,.int .i64 p.r,.int .i64 p.d,.int .i64 p.b,.int .i64 p.g] 23) (.cells #[.int .i64 n] 3) (.cells #[.int .i64 0,.int .i64 0,.int .u64 0,.int .u64 0,.nilFunc,.pointer none] 137)
 generalize (((w.alloc (.cells #[.int .i64 p.n,.int .i64 p.t,.int .i64 p.r,.int .i64 p.d,.int .i64 p.b,.int .i64 p.g] 23)).alloc (.cells #[.int .i64 n] 3)).alloc (.cells #[.int .i64 0,.int .i64 0,.int .u64 0,.int .u64 0,.nilFunc,.pointer none] 137)) = W at hE hb0 hb1 hb2 hW ⊢
 refine (head_any p W).mono ?_
 rintro e w0 ⟨rfl,hx⟩
 replace hE:=ext_trans hE hx
 replace hb2:=(hx.block _ (heap_lt hb2)).trans hb2
 clear hx hW hb0 hb1
 replace hE:=Lib.hid hE
 replace hb2:=Lib.hid hb2
 go_wp2_with (go_at_call 89;refine Hid.out ?_)
 refine Lib.hid ?_
 refine (nodeField_any _).mono ?_
 rintro e w1 ⟨rfl,hx⟩
 replace hE:=hE.out
 replace hb2:=hb2.out
 replace hE:=ext_trans hE hx
 replace hb2:=(hx.block _ (heap_lt hb2)).trans hb2
 clear hx
 replace hE:=Lib.hid hE
 replace hb2:=Lib.hid hb2
 go_wp2_with (go_at_call 210;refine Hid.out ?_)
 refine Lib.hid ?_
 refine (name_any 0 (by omega) (by omega) _).mono ?_
 rintro e w2 ⟨rfl,hx⟩
 replace hE:=hE.out
 replace hb2:=hb2.out
 replace hE:=ext_trans hE hx
 replace hb2:=(hx.block _ (heap_lt hb2)).trans hb2
 clear hx
 replace hE:=Lib.hid hE
 replace hb2:=Lib.hid hb2
 go_wp2_with (go_at_call 163;refine Hid.out ?_)
 refine Lib.hid ?_
 refine (put_at 0 21 0 _ 0#64 (nameW 0) _ fmN U_0.symm rfl).mono ?_
 rintro e w3 ⟨rfl,hx⟩
 replace hE:=hE.out
 replace hb2:=hb2.out
 replace hE:=ext_trans hE hx
 replace hb2:=(hx.block _ (heap_lt hb2)).trans hb2
 clear hx
 replace hE:=Lib.hid hE
 replace hb2:=Lib.hid hb2
 go_wp2_with (go_at_call 120;refine Hid.out ?_)
 refine Lib.hid ?_
 replace hE:=hE.out
 replace hb2:=hb2.out
 refine (set_PT p.headF (putN 0 21 0#64 (nameW 0)) w3).mono ?_
 rintro e w' hR
 obtain ⟨v',F',rfl,hX,hp,hbn,hsub,hnF,hbq⟩:=hR.tail (G:=noF) (w.heap.size+1+1) hE (heap_lt hb2) (fun h => h) (fun _ h => h.elim)
 have hbx:=hbq.trans hb2
 clear hbq hR
 clear hE hb2
 obtain ⟨a2,fn2,rfl,HFN,HX⟩:=tlN hp hX hbx hbn hsub hnF (by omega)
 obtain ⟨c0,c1,c2,c3,c4,c5,cz,ll⟩:=six_of hbx
 clear hX hbx hp hbn hsub hnF
 rcases HFN.out with rfl | ⟨g',caps',rfl⟩
 all_goals
  go_wp2
  clear c0 c1 c2 c3 c4 c5 cz ll
  obtain ⟨hX,hB,hP⟩:=HX.out
  clear HX
  generalize (World.setCell _ (⟨w.heap.size+1+1,5,none⟩ : Addr) _) = Z at hX hB hP ⊢
  obtain ⟨c0,c1,c2,c3,c4,c5,cz,ll⟩:=six_of hB
  exact bodyPost_ret (by simp only [results,Tryz.results136,go_sem];simp [go_sem,c0,c1,c2,c3,c4,c5]) rfl ⟨_,F',rfl,hX,hP⟩
theorem fresh_more (p:Pl) (n:Int) (t:Tr Unit) (h0:0 ≤ n) (h1:n < p.n) (h2:p.n ≤ 1048576) (hN:∀ W,Calls Tryz.prog 136 #[plV p,.int .i64 (n+1)] W (RetP (PT kN t) noF W)) (w:World):Calls Tryz.prog 136 #[plV p,.int .i64 n] w (RetP (PT kN ((setT (p.nxF n) (fnxW p n)).bind fun _ => t)) noF w):=by
 have ew:wrap64 (n+1) = n+1:=by unfold wrap64;omega
 replace hN:=Lib.hid hN
 replace ew:=Lib.hid ew
 go_enter Tryz.func136,Tryz.ntmps136
 go_wp2
 have ⟨hE,hb0,hb1,hb2,hW⟩:=al3 w (.cells #[.int .i64 p.n,.int .i64 p.t,.int .i64 p.r,.int .i64 p.d,.int .i64 p.b,.int .i64 p.g] 23) (.cells #[.int .i64 n] 3) (.cells #[.int .i64 0,.int .i64 0,.int .u64 0,.int .u64 0,.nilFunc,.pointer none] 137)
 generalize (((w.alloc (.cells #[.int .i64 p.n,.int .i64 p.t,.int .i64 p.r,.int .i64 p.d,.int .i64 p.b,.int .i64 p.g] 23)).alloc (.cells #[.int .i64 n] 3)).alloc (.cells #[.int .i64 0,.int .i64 0,.int .u64 0,.int .u64 0,.nilFunc,.pointer none] 137)) = W at hE hb0 hb1 hb2 hW ⊢
 have ⟨c0,c1,c2,c3,c4,c5,lt⟩:=PBox.plc hb0
 have d2:=cell_at (o:=0) hb1 rfl
 have e2:=cell_lt d2
 replace hE:=Lib.hid hE
 replace hb0:=Lib.hid hb0
 replace hb1:=Lib.hid hb1
 replace hb2:=Lib.hid hb2
 replace hW:=Lib.hid hW
 refine wp_region_mix (fun w' => ∃ s,w' = over W s) [(0,[0,1,3,4,7]),(1,[2]),(1,[5]),(1,[6]),(1,[8]),(2,[9])] (by kernel_rfl) (by kernel_rfl) (over_of (ext_drew (ext_refl W))) ?_
 simp only [pieces,pickL,List.map_cons,List.map_nil,List.getD_cons_zero,List.getD_cons_succ]
 refine mix_reads ?_
 repeat (go_big_quiet_step (fail))
 refine wpQuiet_nil (mix_acts ?_)
 have HX0:=Lib.hid (ext_drew (ext_refl W))
 go_wp2_with (go_at_call 94;refine (next_any p n _).mono ?_;rintro e w1 ⟨rfl,hx⟩;have HX1:=Lib.hid (ext_trans HX0.out hx);clear hx)
 refine mixQ_mk (over_of HX1.out) (mix_acts ?_)
 go_wp2_with (go_at_call 212;refine (fnx_any p n h0 h1 h2 _).mono ?_;rintro e w2 ⟨rfl,hx⟩;have HX2:=Lib.hid (ext_trans HX1.out hx);clear hx)
 refine mixQ_mk (over_of HX2.out) (mix_acts ?_)
 go_wp2_with (go_at_call 120;refine (set_PT (p.nxF n) (fnxW p n) _).mono ?_;rintro e w3 ⟨v1,F1,rfl,hx,hp1,hbn1,hsub1⟩;refine Hid.out ?_)
 refine Lib.hid ?_
 replace hE:=hE.out
 replace hb0:=hb0.out
 replace hb1:=hb1.out
 replace hb2:=hb2.out
 replace hW:=hW.out
 have hn1:¬ F1 (w.heap.size+1+1):=fun h => (hsub1 _ h).elim (fun h => h) fun h => by have:=heap_lt hb2;have:=HX2.out.size;omega
 have hs1:∀ j,F1 j → noF j ∨ w.heap.size ≤ j:=fun j hj => (hsub1 j hj).imp_right fun h => Nat.le_trans (Nat.le_trans hE.size HX2.out.size) h
 have HX3:=Lib.hid (ext_trans HX2.out hx)
 replace hb0:=(HX3.out.block _ (heap_lt hb0)).trans hb0
 replace hb1:=(HX3.out.block _ (heap_lt hb1)).trans hb1
 replace hb2:=(HX3.out.block _ (heap_lt hb2)).trans hb2
 replace hE:=ext_trans hE HX3.out
 clear hx hsub1
 replace hE:=Lib.hid hE
 replace hb0:=Lib.hid hb0
 replace hb1:=Lib.hid hb1
 replace hb2:=Lib.hid hb2
 replace hW:=Lib.hid hW
 replace hp1:=Lib.hid hp1
 replace hbn1:=Lib.hid hbn1
 replace hs1:=Lib.hid hs1
 replace hn1:=Lib.hid hn1
 go_wp2
 refine mixQ_mk (over_of HX3.out) (mix_acts ?_)
 go_wp2_with (go_at_call 211;refine Hid.out ?_)
 refine Lib.hid ?_
 replace hE:=hE.out
 replace hb0:=hb0.out
 replace hb1:=hb1.out
 replace hb2:=hb2.out
 replace hW:=hW.out
 replace hp1:=hp1.out
 replace hbn1:=hbn1.out
 replace hs1:=hs1.out
 replace hn1:=hn1.out
 have hCT:=fresh1_CT p n t w.heap.size (w.heap.size+1) w3 ew.out hb0 hb1 hN.out
 refine (then_NN _ _ F1 _ v1 _ w3 hp1 hCT hbn1 (fun j h => by rcases h with rfl | rfl;exact heap_lt hb0;exact heap_lt hb1)).mono ?_
 rintro e w' hR
 have HXZ:=Lib.hid (ext_trans HX3.out hR.ext)
 obtain ⟨v',F',rfl,hX,hp,hbn,hsub,hnF,hbq⟩:=hR.tail (G:=noF) (w.heap.size+1+1) hE (heap_lt hb2) (fun h => by rcases h with h | h | h;exact hn1 h;omega;omega) (fun j h => by rcases h with h | h | h;exact hs1 j h;exact .inr (by omega);exact .inr (by omega))
 have hbx:=hbq.trans hb2
 clear hbq hR
 go_wp2
 refine mixQ_mk (over_of HXZ.out) (mix_late ?_)
 clear hE hb0 hb1 hb2 hW c0 c1 c2 c3 c4 c5 lt d2 e2 hN hp1 hbn1 hs1 hn1 hCT ew
 obtain ⟨a2,fn2,rfl,HFN,HX⟩:=tlN hp hX hbx hbn hsub hnF (by omega)
 obtain ⟨c0,c1,c2,c3,c4,c5,cz,ll⟩:=six_of hbx
 clear hX hbx hp hbn hsub hnF
 rcases HFN.out with rfl | ⟨g',caps',rfl⟩
 all_goals
  go_wp2
  refine lateQ_mk (fun _ => True) trivial (mix_end ?_)
  clear c0 c1 c2 c3 c4 c5 cz ll
  obtain ⟨hX,hB,hP⟩:=HX.out
  clear HX
  generalize (World.setCell _ (⟨w.heap.size+1+1,5,none⟩ : Addr) _) = Z at hX hB hP ⊢
  obtain ⟨c0,c1,c2,c3,c4,c5,cz,ll⟩:=six_of hB
  go_wp2
  exact bodyPost_ret (by simp only [results,Tryz.results136,go_sem];simp [go_sem,c0,c1,c2,c3,c4,c5]) rfl ⟨_,F',rfl,hX,hP⟩
theorem freshFrom_PT (p:Pl) (h2:p.n ≤ 1048576):∀ (k:Nat) (n:Int),0 ≤ n → n+k = p.n → ∀ (w:World),Calls Tryz.prog 136 #[plV p,.int .i64 n] w (RetP (PT kN (freshT p k n)) noF w)
 | 0,n,h0,h1,w => fresh_end p n (by omega) w
 | k+1,n,h0,h1,w => fresh_more p n (freshT p k (n+1)) h0 (by omega) h2 (fun W => freshFrom_PT p h2 k (n+1) (by omega) (by omega) W) w
theorem fresh_PT (p:Pl) (h0:0 ≤ p.n) (h2:p.n ≤ 1048576) (w:World):Calls Tryz.prog 59 #[plV p] w (RetP (PT kN (freshT p p.n.toNat 0)) noF w):=by
 go_enter Tryz.func59,Tryz.ntmps59
 go_wp2_with (go_at_call 136;refine Hid.out ?_)
 refine Lib.hid ?_
 have ⟨hE,hb0,hb1,hW⟩:=al2 w (.cells #[.int .i64 p.n,.int .i64 p.t,.int .i64 p.r,.int .i64 p.d,.int .i64 p.b,.int .i64 p.g] 23) (.cells #[.int .i64 0,.int .i64 0,.int .u64 0,.int .u64 0,.nilFunc,.pointer none] 137)
 generalize ((w.alloc (.cells #[.int .i64 p.n,.int .i64 p.t,.int .i64 p.r,.int .i64 p.d,.int .i64 p.b,.int .i64 p.g] 23)).alloc (.cells #[.int .i64 0,.int .i64 0,.int .u64 0,.int .u64 0,.nilFunc,.pointer none] 137)) = W at hE hb0 hb1 hW ⊢
 replace hW:=Lib.hid hW
 refine (freshFrom_PT p h2 p.n.toNat 0 (by omega) (by omega) W).mono ?_
 rintro e w' hR
 obtain ⟨v',F',rfl,hX,hp,hbn,hsub,hnF,hbq⟩:=hR.tail (G:=noF) (w.heap.size+1) hE (heap_lt hb1) (fun h => h) (fun _ h => h.elim)
 have hbx:=hbq.trans hb1
 clear hbq hR
 clear hE hb0 hb1 hW
 obtain ⟨a2,fn2,rfl,HFN,HX⟩:=tlN hp hX hbx hbn hsub hnF (by omega)
 obtain ⟨c0,c1,c2,c3,c4,c5,cz,ll⟩:=six_of hbx
 clear hX hbx hp hbn hsub hnF
 rcases HFN.out with rfl | ⟨g',caps',rfl⟩
 all_goals
  go_wp2
  clear c0 c1 c2 c3 c4 c5 cz ll
  obtain ⟨hX,hB,hP⟩:=HX.out
  clear HX
  generalize (World.setCell _ (⟨w.heap.size+1,5,none⟩ : Addr) _) = Z at hX hB hP ⊢
  obtain ⟨c0,c1,c2,c3,c4,c5,cz,ll⟩:=six_of hB
  exact bodyPost_ret (by simp only [results,Tryz.results59,go_sem];simp [go_sem,c0,c1,c2,c3,c4,c5]) rfl ⟨_,F',rfl,hX,hP⟩
end Go.Proofs.YthjklbonebnekaaGreat

