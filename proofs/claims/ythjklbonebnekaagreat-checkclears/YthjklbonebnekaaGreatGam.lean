/-
  Hazards: the words, and the programs Set, Clear, Held and Guard, as trees. No conditions but those of each theorem.
-/
import Derived.Test.YthjklbonebnekaaGreatGab
import Derived.Test.YthjklbonebnekaaGreatGae
import Derived.Test.YthjklbonebnekaaGreatGaf
import Derived.Test.YthjklbonebnekaaGreatGal
set_option maxRecDepth 8000
set_option maxHeartbeats 4000000
namespace Go.Proofs.YthjklbonebnekaaGreat
open Go Go.RowKit
theorem U_nameH {n:Int} (h0 : -1 ≤ n) (h1:n < 4611686018427387904):U (nameW n) = n+1:=by
 rw [U_toNat]
 unfold nameW
 rw [BitVec.toNat_ofNat]
 omega
theorem nameH_none:nameW (-1) = 0#64:=U_inj ((U_nameH (by omega) (by omega)).trans (by rw [U_0];rfl))
def nmB (x:BitVec 64) (n:Int):Bool:=decide (0 ≤ n) && (x == nameW n)
def clrT (p:Pl) (t:Int):Nat → Int → Tr Unit
 | 0,_ => .done ()
 | k+1,s => (setT (p.hazF t s) 0#64).bind fun _ => clrT p t k (s+1)
def hldT (p:Pl) (n:Int):Nat → Int → Tr Bool
 | 0,i => (getT (p.hazF (i / 3) (i % 3))).bind fun x => if nmB x n then .done true else .done false
 | k+1,i => (getT (p.hazF (i / 3) (i % 3))).bind fun x => if nmB x n then .done true else hldT p n k (i+1)
def nF (F:Nat → Prop):Nat → Prop:=fun k => ¬ F k
theorem cell_agr {F:Nat → Prop} {w w':World} (ha:Agr F w w') {b:Nat} (hb:¬ nF F b) (o:Nat):w'.cell? ⟨b,o,none⟩ = w.cell? ⟨b,o,none⟩:=by
 simp [World.cell?,ha b (Classical.not_not.1 hb)]
theorem lt_agr {F:Nat → Prop} {w w':World} (ha:Agr F w w') {b:Nat} (hb:¬ nF F b) (hl:b < w.heap.size):b < w'.heap.size:=by
 have h0:w.heap[b]? = some w.heap[b]:=Array.getElem?_eq_getElem hl
 exact heap_lt ((ha b (Classical.not_not.1 hb)).trans h0)
theorem UsB.agr {F:Nat → Prop} {w w':World} {v:Value} {l:List (BitVec 64)} (h:UsB (nF F) w v l) (ha:Agr F w w'):UsB (nF F) w' v l:=by
 obtain ⟨a0,cap,e,hc,hr⟩:=h
 refine ⟨a0,cap,e,hc,fun hl => ?_⟩
 obtain ⟨b,off,ea,h0,hlt,hcell⟩:=hr hl
 exact ⟨b,off,ea,h0,lt_agr ha h0 hlt,fun i hi => (cell_agr ha h0 _).trans (hcell i hi)⟩
theorem AsB.agr {F:Nat → Prop} {w w':World} {v:Value} {l:List Acc} (h:AsB (nF F) w v l) (ha:Agr F w w'):AsB (nF F) w' v l:=by
 obtain ⟨a0,cap,e,hc,hr⟩:=h
 refine ⟨a0,cap,e,hc,fun hl => ?_⟩
 obtain ⟨b,o,ea,h0,hlt,hcell⟩:=hr hl
 refine ⟨b,o,ea,h0,lt_agr ha h0 hlt,fun i hi => ?_⟩
 rw [cell_agr ha h0,cell_agr ha h0,cell_agr ha h0,cell_agr ha h0]
 exact hcell i hi
theorem Told.agr {F:Nat → Prop} {w w':World} (ha:Agr F w w'):∀ {r:List (BitVec 64)} {v:Value},Told (nF F) w r v → Told (nF F) w' r v
 | [],_,h => h
 | _ :: _,_,⟨g,p,e,h0,hlt,c0,c1,h⟩ => ⟨g,p,e,h0,lt_agr ha h0 hlt,(cell_agr ha h0 _).trans c0,(cell_agr ha h0 _).trans c1,Told.agr ha h⟩
theorem UsB.moreN {D E:Nat → Prop} {w:World} {v:Value} {l:List (BitVec 64)} (h:UsB D w v l) (he:∀ k,k < w.heap.size → E k → D k):UsB E w v l:=by
 obtain ⟨a0,cap,e,hc,hr⟩:=h
 refine ⟨a0,cap,e,hc,fun hl => ?_⟩
 obtain ⟨b,o,ea,h0,hlt,hcell⟩:=hr hl
 exact ⟨b,o,ea,fun x => h0 (he b hlt x),hlt,hcell⟩
theorem nF_of {D F:Nat → Prop} {n:Nat} (h:∀ k,k < n → ¬ D k → F k):∀ k,k < n → nF F k → D k:=fun k hk hn => Classical.byContradiction fun x => hn (h k hk x)
def oF (F:Nat → Prop) (w:World):Nat → Prop:=fun k => k < w.heap.size ∧ ¬ F k
theorem oF_of {F:Nat → Prop} {w:World}:∀ k,k < w.heap.size → oF F w k → nF F k:=fun _ _ h => h.2
def PA:List Acc → List (BitVec 64) → (Nat → Prop) → Value → World → Prop
 | [],t => fun F v w => ∃ rv,v = pV rv accZ .nilFunc (.pointer none) ∧ UsB (nF F) w rv t
 | a :: l,t => fun F v w => ∃ g caps,v = pV (.slice none 0 0) a (.func (.func g) #[] caps) (.pointer none) ∧ Enters g ∧ ∀ (x:BitVec 64) (w':World),Agr F w w' → Calls Tryz.prog g (#[.int .u64 (U x)] ++ caps) w' (RetP (PA l (t ++ [x])) F w')
theorem PA.agr {l:List Acc} {t:List (BitVec 64)} {F:Nat → Prop} {v:Value} {w w':World} (h:PA l t F v w) (ha:Agr F w w'):PA l t F v w':=by
 cases l with
 | nil => obtain ⟨rv,e,hu⟩:=h;exact ⟨rv,e,hu.agr ha⟩
 | cons a l => obtain ⟨g,caps,e,he,hc⟩:=h;exact ⟨g,caps,e,he,fun x u hu => hc x u (ha.trans hu)⟩
theorem PA.shape {l:List Acc} {t:List (BitVec 64)} {F:Nat → Prop} {v:Value} {w:World} (h:PA l t F v w):∃ sa n c a fn,v = pV (.slice sa n c) a fn (.pointer none) ∧ (fn = .nilFunc ∨ ∃ g caps,fn = .func (.func g) #[] caps):=by
 cases l with
 | nil =>
  obtain ⟨rv,rfl,hu⟩:=h
  obtain ⟨a0,cap,rfl,_⟩:=hu
  exact ⟨_,_,_,_,_,rfl,.inl rfl⟩
 | cons a l => obtain ⟨g,caps,rfl,_⟩:=h;exact ⟨_,_,_,_,_,rfl,.inr ⟨g,caps,rfl⟩⟩
theorem listedP_none (F:Nat → Prop) (t:List (BitVec 64)) (v lv:Value) (w:World) (hT:Told (nF F) w t.reverse v) (hA:AsB (nF F) w lv []) (hl:t.length ≤ 1000) :
  Calls Tryz.prog 277 #[v,lv] w (RetP (PA [] t) F w):=by
 refine (listed_none (oF F w) t v lv w (hT.more oF_of) (hA.more oF_of) hl (fun _ h => h.1)).mono ?_
 rintro e w' ⟨v',rfl,hx,rv,e2,hu⟩
 refine ⟨v',fun k => k < w'.heap.size ∧ ¬ oF F w k,rfl,hx,⟨rv,e2,hu.moreN (nF_of fun k hk hn => ⟨hk,hn⟩)⟩,fun _ h => h.1,fun j hj => ?_⟩
 by_cases h:F j
 ·exact .inl h
 ·exact .inr (Nat.le_of_not_lt fun hlt => hj.2 ⟨hlt,h⟩)
theorem listed1P (F:Nat → Prop) (x:BitVec 64) (a:Acc) (l:List Acc) (t:List (BitVec 64)) (v lv:Value) (B1 B2:Nat) (w:World) (hT:Told (nF F) w t.reverse v) (hA:AsB (nF F) w lv (a :: l)) (d1:w.cell? ⟨B1,0,none⟩ = some v) (d2:w.cell? ⟨B2,0,none⟩ = some lv)
  (hl:t.length+l.length ≤ 999)
  (IH:Hid (∀ (F:Nat → Prop) (t:List (BitVec 64)) v lv w,Told (nF F) w t.reverse v → AsB (nF F) w lv l → t.length+l.length ≤ 1000 → Bnd F w → Calls Tryz.prog 277 #[v,lv] w (RetP (PA l t) F w))) :
  Calls Tryz.prog 283 #[.int .u64 (U x),.pointer (some ⟨B1,0,none⟩),.pointer (some ⟨B2,0,none⟩)] w (RetP (PA l (t ++ [x])) F w):=by
 replace hT:=hT.more (oF_of (F:=F) (w:=w))
 replace hA:=hA.more (oF_of (F:=F) (w:=w))
 have hb:∀ k,oF F w k → k < w.heap.size:=fun _ h => h.1
 have HA:=Lib.hid hA
 obtain ⟨a0,cap,rfl,hc,_⟩:=hA
 obtain ⟨b,o,rfl,hb',hlt,hcell⟩:=HA.out.at (by simp)
 have HT:=Lib.hid hT
 obtain ⟨p,rfl⟩:=hT.ptr
 have l1:=cell_lt d1
 have l2:=cell_lt d2
 clear hT hcell
 have l1':B1 < w.heap.size+1:=by omega
 have l2':B2 < w.heap.size+1:=by omega
 simp only [List.length_cons] at hc d2
 have HA':Hid (AsB (oF F w) w (.slice (some ⟨b,o,none⟩) (l.length+1) cap) (a :: l)):=HA
 clear HA
 go_enter Tryz.func283,Tryz.ntmps283
 go_wp2
 generalize hW:w.alloc _ = W
 refine wp_region_mix (fun w' => ∃ s,w' = over W s) [(0,[0,1,4,5]),(1,[2]),(1,[3]),(1,[6]),(2,[7])] (by kernel_rfl) (by kernel_rfl) (over_of (ext_drew (ext_refl W))) ?_
 simp only [pieces,pickL,List.map_cons,List.map_nil,List.getD_cons_zero,List.getD_cons_succ]
 refine mix_reads ?_
 have k1:W.cell? ⟨B1,0,none⟩ = some (.pointer p):=by rw [← hW];exact ext_cell (ext_alloc _ (ext_refl w)) d1
 have k2:W.cell? ⟨B2,0,none⟩ = some (.slice (some ⟨b,o,none⟩) (l.length+1) cap):=by rw [← hW];exact ext_cell (ext_alloc _ (ext_refl w)) d2
 have m1:=cell_lt k1
 have m2:=cell_lt k2
 repeat (go_big_quiet_step (fail))
 have hva:∃ va,va = (if cap = 1 then some (⟨b,o,none⟩ : Addr) else some ⟨b,o+4,none⟩) ∧ (0 < l.length → va = some ⟨b,o+4,none⟩):=⟨_,rfl,fun h => if_neg (by omega)⟩
 obtain ⟨va,eva,hva⟩:=hva
 rw [← eva]
 clear eva
 have HV:Hid (AsB (oF F w) w (.slice va l.length (cap - 1)) l):=Lib.hid (HA'.out.tail va (cap - 1) hva (by omega))
 clear hva HA'
 have HW:Hid (Ext w W):=Lib.hid (by rw [← hW];exact ext_alloc _ (ext_refl w))
 have hB:W.heap[w.heap.size]? = some (.cells #[.slice none 0 0,.int .i64 0,.int .i64 0,.int .u64 0,.int .u64 0,.nilFunc,.pointer none] 303):=by rw [← hW];exact heap_alloc_new _ _
 have HB:=Lib.hid hB
 clear hB hW d1 d2 k1 k2 m1 m2
 refine wpQuiet_nil (mix_acts ?_)
 go_wp2
 refine mixQ_mk (over_of (ext_alloc _ (ext_drew (ext_refl W)))) (mix_acts ?_)
 have HU:Hid (Us (W.drew.alloc (.cells #[.int .u64 (U x)] 40)) (.slice (some ⟨W.heap.size,0,none⟩) 1 1) [x]):=by
  have h0:=heap_at W.drew (.cells #[.int .u64 (U x)] 40) W.heap.size rfl
  refine Lib.hid ⟨_,1,rfl,Nat.le_refl _,fun _ => ⟨_,0,rfl,by simp,fun i hi => ?_⟩⟩
  have:i = 0:=by simpa using hi
  subst this
  exact cell_at h0 rfl
 have hb1:∀ k,(oF F w k ∨ k = w.heap.size) → k < W.heap.size:=fun k hk => by
  have:=heap_lt HB.out
  rcases hk with hk | rfl
  ·have:=hb k hk;omega
  ·exact this
 have HT1':Hid (Told (fun k => oF F w k ∨ k = w.heap.size) (W.drew.alloc (.cells #[.int .u64 (U x)] 40)) t.reverse (.pointer p)):=Lib.hid (((HT.out.more (fun k hk h => h.resolve_right (Nat.ne_of_lt hk))).ext HW.out).ext (ext_alloc (.cells #[.int .u64 (U x)] 40) (ext_drew (ext_refl W))))
 have HV':Hid (AsB (fun k => oF F w k ∨ k = w.heap.size) w (.slice va l.length (cap - 1)) l):=Lib.hid (HV.out.more (fun k hk h => h.resolve_right (Nat.ne_of_lt hk)))
 go_wp2_with (go_at_call 284;refine (with_any (fun k => oF F w k ∨ k = w.heap.size) [x] t.reverse _ _ _ HT1'.out HU.out (by simp) (fun k hk => by have:=hb1 k hk;simp;omega)).mono ?_;rintro e w1 ⟨v1,rfl,ht,hx⟩;have HT2:=Lib.hid ht;have HX1:=Lib.hid (ext_trans (ext_alloc _ (ext_drew (ext_refl W))) hx);obtain ⟨p1,rfl⟩:=ht.ptr;clear ht hx)
 refine mixQ_mk (over_of HX1.out) (mix_acts ?_)
 have HV2:=Lib.hid ((HV'.out.ext HW.out).ext HX1.out)
 have HT3:Hid (Told (fun k => oF F w k ∨ k = w.heap.size) w1 (t ++ [x]).reverse (.pointer p1)):=by
  rw [List.reverse_append]
  exact HT2
 have hb2:∀ k,(oF F w k ∨ k = w.heap.size) → k < w1.heap.size:=fun k hk => Nat.lt_of_lt_of_le (hb1 k hk) HX1.out.size
 have hF1:∀ k,k < w1.heap.size → ¬ (oF F w k ∨ k = w.heap.size) → (k < w1.heap.size ∧ ¬ (oF F w k ∨ k = w.heap.size)):=fun k hk hn => ⟨hk,hn⟩
 have HT4:=Lib.hid (HT3.out.more (nF_of hF1))
 have HV4:=Lib.hid (HV2.out.more (nF_of hF1))
 have hown:=heap_lt HB.out
 have hWs:=HW.out.size
 have hw1s:=HX1.out.size
 clear hF1
 go_wp2_with (go_at_call 277;refine (IH.out (fun k => k < w1.heap.size ∧ ¬ (oF F w k ∨ k = w.heap.size)) (t ++ [x]) _ _ _ HT4.out HV4.out (by simp;omega) (fun _ h => h.1)).mono ?_;rintro e w2 ⟨v2,F2,rfl,hx,hp,hbn,hsub⟩;have HP:=Lib.hid hp;have HBN:=Lib.hid hbn;have HSUB:=Lib.hid hsub;have HX2:=Lib.hid (ext_trans HX1.out hx);obtain ⟨sa,n,c,a',fn,rfl,hfn⟩:=hp.shape;have HFN:=Lib.hid hfn;clear hp hx hfn hbn hsub)
 refine mixQ_mk (over_of HX2.out) (mix_late ?_)
 have hbx:=(HX2.out.block w.heap.size (heap_lt HB.out)).trans HB.out
 obtain ⟨cc0,cc1,cc2,cc3,cc4,cc5,cc6,cz,ll⟩:=sev_of hbx
 have HBX:=Lib.hid hbx
 clear hbx
 have HE:=Lib.hid (ext_trans HW.out HX2.out)
 have hX:=put7_ext (b:=w.heap.size) (.slice sa n c) (.int .i64 a'.op) (.int .i64 a'.at_) (.int .u64 (U a'.a)) (.int .u64 (U a'.b)) fn (.pointer none) HE.out (Nat.le_refl _)
 have hB:=put7_block (.slice sa n c) (.int .i64 a'.op) (.int .i64 a'.at_) (.int .u64 (U a'.a)) (.int .u64 (U a'.b)) fn (.pointer none) HBX.out
 have hnF:¬ F2 w.heap.size:=fun h => by
  rcases HSUB.out _ h with h | h
  ·exact h.2 (.inr rfl)
  ·omega
 have hP:=HP.out.agr (Agr.of_put7 (w:=w2) (b:=w.heap.size) (.slice sa n c) (.int .i64 a'.op) (.int .i64 a'.at_) (.int .u64 (U a'.a)) (.int .u64 (U a'.b)) fn (.pointer none) hnF)
 have hS:(put7 w.heap.size (.slice sa n c) (.int .i64 a'.op) (.int .i64 a'.at_) (.int .u64 (U a'.a)) (.int .u64 (U a'.b)) fn (.pointer none) w2).heap.size = w2.heap.size:=put7_size _ _ _ _ _ _ _
 have hsubF:∀ j,F2 j → F j ∨ w.heap.size ≤ j:=fun j hj => by
  rcases HSUB.out _ hj with h | h
  ·by_cases hf:F j
   ·exact .inl hf
   ·exact .inr (Nat.le_of_not_lt fun hlt => h.2 (.inl ⟨hlt,hf⟩))
  ·exact .inr (by omega)
 have HSB2:=Lib.hid hsubF
 rw [put7] at hB hX hP hS
 have HB2:=Lib.hid hB
 have HX3:=Lib.hid hX
 have HP3:=Lib.hid (And.intro hP hS)
 clear hB hX hP HP hS hnF hsubF
 unfold pV at HP3 ⊢
 rcases HFN.out with rfl | ⟨g,caps,rfl⟩
 all_goals
  go_wp2
  refine lateQ_mk (fun _ => True) trivial (mix_end ?_)
  clear cc0 cc1 cc2 cc3 cc4 cc5 cc6 cz ll
  replace HB2:=HB2.out
  replace HX3:=HX3.out
  replace HP3:=HP3.out
  generalize (World.setCell _ (⟨w.heap.size,6,none⟩ : Addr) _) = Z at HB2 HX3 HP3 ⊢
  obtain ⟨c0,c1,c2,c3,c4,c5,c6,cz,ll⟩:=sev_of HB2
  replace HX3:=Lib.hid HX3
  replace HP3:=Lib.hid HP3
  clear HB2
  go_wp2
  exact bodyPost_ret (by simp only [results,Tryz.results283,go_sem];simp [go_sem,c0,c1,c2,c3,c4,c5,c6]) rfl ⟨_,F2,rfl,HX3.out,HP3.out.1,fun j hj => by rw [HP3.out.2];exact HBN.out j hj,HSB2.out⟩
theorem listedP_some (F:Nat → Prop) (a:Acc) (l:List Acc) (t:List (BitVec 64)) (v lv:Value) (w:World) (hT:Told (nF F) w t.reverse v) (hA:AsB (nF F) w lv (a :: l)) (hl:t.length+l.length ≤ 999) (hF:Bnd F w)
  (IH:Hid (∀ (F:Nat → Prop) (t:List (BitVec 64)) v lv w,Told (nF F) w t.reverse v → AsB (nF F) w lv l → t.length+l.length ≤ 1000 → Bnd F w → Calls Tryz.prog 277 #[v,lv] w (RetP (PA l t) F w))) :
  Calls Tryz.prog 277 #[v,lv] w (RetP (PA (a :: l) t) F w):=by
 have HA:=Lib.hid hA
 obtain ⟨a0,cap,rfl,hc,_⟩:=hA
 obtain ⟨b,o,rfl,hb',hlt,hcell⟩:=HA.out.at (by simp)
 obtain ⟨c0,c1,c2,c3⟩:=hcell 0 (by simp)
 rw [Nat.zero_mul,Nat.add_zero] at c0 c1 c2 c3
 have ea:aN (a :: l) 0 = a:=rfl
 rw [ea] at c0 c1 c2 c3
 clear ea
 have hlt1:b < w.heap.size+1:=by omega
 have hlt2:b < w.heap.size+1+1:=by omega
 have HT:=Lib.hid hT
 obtain ⟨p,rfl⟩:=hT.ptr
 clear hT hcell
 have HE:Hid (Enters 283):=Lib.hid (enters_of Tryz.func283 (by kernel_rfl) rfl)
 go_enter Tryz.func277,Tryz.ntmps277
 go_wp2
 have hX:∀ o3,Ext w (((w.alloc (.cells #[.pointer p] 315)).alloc (.cells #[.slice (some ⟨b,o,none⟩) (l.length+1) cap] 310)).alloc o3):=fun o3 => ext_alloc _ (ext_alloc _ (ext_alloc _ (ext_refl w)))
 have HBH:=Lib.hid hF
 clear hF
 refine bodyPost_ret (v:=pV (.slice none 0 0) a (.func (.func 283) #[] #[.pointer (some ⟨w.heap.size,0,none⟩),.pointer (some ⟨w.heap.size+1,0,none⟩)]) (.pointer none)) (by simp [results,Tryz.results277,go_sem,pV]) rfl ⟨_,fun j => F j ∨ j = w.heap.size ∨ j = w.heap.size+1,rfl,hX _,⟨_,_,rfl,HE.out,fun x w' ha => ?_⟩,fun j hj => ?_,fun j hj => ?_⟩
 ·have e1:=heap_at w (.cells #[.pointer p] 315) w.heap.size rfl
  have e2:=heap_at (w.alloc (.cells #[.pointer p] 315)) (.cells #[.slice (some ⟨b,o,none⟩) (l.length+1) cap] 310) (w.heap.size+1) (by simp)
  have e1':=fun o3 => ((ext_alloc o3 (ext_alloc (.cells #[.slice (some ⟨b,o,none⟩) (l.length+1) cap] 310) (ext_refl (w.alloc (.cells #[.pointer p] 315))))).block _ (heap_lt e1)).trans e1
  have e2':=fun o3 => ((ext_alloc o3 (ext_refl ((w.alloc (.cells #[.pointer p] 315)).alloc (.cells #[.slice (some ⟨b,o,none⟩) (l.length+1) cap] 310)))).block _ (heap_lt e2)).trans e2
  have d1:=cell_at (o:=0) ((ha _ (.inr (.inl rfl))).trans (e1' _)) rfl
  have d2:=cell_at (o:=0) ((ha _ (.inr (.inr rfl))).trans (e2' _)) rfl
  have hFw:Agr F w w':=(Agr.of_ext (hX _) HBH.out).trans (ha.sub fun j hj => .inl hj)
  exact (listed1P F x a l t _ _ w.heap.size (w.heap.size+1) w' (HT.out.agr hFw) (HA.out.agr hFw) d1 d2 hl IH).mono fun _ _ h => h.mono fun j hj => .inl hj
 ·rcases hj with hj | rfl | rfl
  ·have:=HBH.out j hj
   simp
   omega
  ·simp
   omega
  ·simp
 ·rcases hj with hj | rfl | rfl
  ·exact .inl hj
  ·exact .inr (Nat.le_refl _)
  ·exact .inr (Nat.le_succ _)
theorem listedP_any:∀ (l:List Acc) (F:Nat → Prop) (t:List (BitVec 64)) (v lv:Value) (w:World),Told (nF F) w t.reverse v → AsB (nF F) w lv l → t.length+l.length ≤ 1000 → Bnd F w → Calls Tryz.prog 277 #[v,lv] w (RetP (PA l t) F w)
 | [],F,t,v,lv,w,hT,hA,hl,hF => listedP_none F t v lv w hT hA (by simpa using hl)
 | a :: l,F,t,v,lv,w,hT,hA,hl,hF => listedP_some F a l t v lv w hT hA (by simp at hl;omega) hF (Lib.hid (listedP_any l))
theorem listP_any (l:List Acc) (lv:Value) (w:World) (hA:AsB (fun _ => False) w lv l) (hl:l.length ≤ 1000):Calls Tryz.prog 272 #[lv] w (RetP (PA l []) noF w):=by
 have HA:=Lib.hid hA
 obtain ⟨a0,cap,rfl,hc,_⟩:=hA
 go_enter Tryz.func272,Tryz.ntmps272
 go_wp2_with (first
  | (go_at_call 278;refine (cloneA_any (fun k => k < w.heap.size+1) l _ _ (HA.out.ext (ext_alloc _ (ext_refl w))) hl (fun k hk => by simpa using hk)).mono ?_;rintro e w1 ⟨v1,rfl,ha,hx⟩;have HA1:=Lib.hid ha;have HX1:=Lib.hid hx;clear ha hx)
  | (go_at_call 277;refine (listedP_any l (fun k => w.heap.size+1 ≤ k ∧ k < w1.heap.size) [] _ _ _ rfl (HA1.out.more (nF_of fun k hk hn => ⟨Nat.le_of_not_lt hn,hk⟩)) (by simpa using hl) (fun k hk => hk.2)).mono ?_;rintro e w2 ⟨v2,F2,rfl,hx,hp,hbn,hsub⟩;have HP:=Lib.hid hp;have HBN:=Lib.hid hbn;have hw1s:=HX1.out.size;have HSUB:=Lib.hid hsub;clear hbn hsub;have HX2:=Lib.hid (ext_trans HX1.out hx);obtain ⟨sa,n,c,a',fn,rfl,hfn⟩:=hp.shape;have HFN:=Lib.hid hfn;clear hp hx hfn;refine Hid.out ?_))
 refine Lib.hid ?_
 have hbx:=(HX2.out.block w.heap.size (by simp)).trans (heap_at w _ _ rfl)
 obtain ⟨cc0,cc1,cc2,cc3,cc4,cc5,cc6,cz,ll⟩:=sev_of hbx
 have HBX:=Lib.hid hbx
 clear hbx
 have HE:=Lib.hid (ext_trans (ext_alloc _ (ext_refl w)) HX2.out)
 have hX:=put7_ext (b:=w.heap.size) (.slice sa n c) (.int .i64 a'.op) (.int .i64 a'.at_) (.int .u64 (U a'.a)) (.int .u64 (U a'.b)) fn (.pointer none) HE.out (Nat.le_refl _)
 have hB:=put7_block (.slice sa n c) (.int .i64 a'.op) (.int .i64 a'.at_) (.int .u64 (U a'.a)) (.int .u64 (U a'.b)) fn (.pointer none) HBX.out
 have hw1t:w.heap.size+1 ≤ w1.heap.size:=by simpa using hw1s
 have hnF:¬ F2 w.heap.size:=fun h => by
  rcases HSUB.out _ h with h | h
  ·exact absurd h.1 (by omega)
  ·omega
 have hP:=HP.out.agr (Agr.of_put7 (w:=w2) (b:=w.heap.size) (.slice sa n c) (.int .i64 a'.op) (.int .i64 a'.at_) (.int .u64 (U a'.a)) (.int .u64 (U a'.b)) fn (.pointer none) hnF)
 have hS:(put7 w.heap.size (.slice sa n c) (.int .i64 a'.op) (.int .i64 a'.at_) (.int .u64 (U a'.a)) (.int .u64 (U a'.b)) fn (.pointer none) w2).heap.size = w2.heap.size:=put7_size _ _ _ _ _ _ _
 have hsubF:∀ j,F2 j → noF j ∨ w.heap.size ≤ j:=fun j hj => by
  rcases HSUB.out _ hj with h | h
  ·exact .inr (by omega)
  ·exact .inr (by omega)
 have HSB2:=Lib.hid hsubF
 rw [put7] at hB hX hP hS
 have HB2:=Lib.hid hB
 have HX3:=Lib.hid hX
 have HP3:=Lib.hid (And.intro hP hS)
 clear hB hX hP HP hS hnF hsubF hw1t
 unfold pV at HP3 ⊢
 rcases HFN.out with rfl | ⟨g,caps,rfl⟩
 all_goals
  go_wp2
  clear cc0 cc1 cc2 cc3 cc4 cc5 cc6 cz ll
  replace HB2:=HB2.out
  replace HX3:=HX3.out
  replace HP3:=HP3.out
  generalize (World.setCell _ (⟨w.heap.size,6,none⟩ : Addr) _) = Z at HB2 HX3 HP3 ⊢
  obtain ⟨c0,c1,c2,c3,c4,c5,c6,cz,ll⟩:=sev_of HB2
  exact bodyPost_ret (by simp only [results,Tryz.results272,go_sem];simp [go_sem,c0,c1,c2,c3,c4,c5,c6]) rfl ⟨_,F2,rfl,HX3,HP3.1,fun j hj => by rw [HP3.2];exact HBN.out j hj,HSB2.out⟩
end Go.Proofs.YthjklbonebnekaaGreat

