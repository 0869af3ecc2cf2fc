/-
  What the calls of Run come to (R). Conditions: those of each theorem.
-/
import Derived.Test.YthjklbonebnekaaGreatGac
import Derived.Test.YthjklbonebnekaaGreatGaq
import Derived.Test.YthjklbonebnekaaGreatGat
import Derived.Test.YthjklbonebnekaaGreatGau
import Derived.Test.YthjklbonebnekaaGreatGax
import Derived.Test.YthjklbonebnekaaGreatGba
import Derived.Test.YthjklbonebnekaaGreatGbb
import Derived.Test.YthjklbonebnekaaGreatGbf
import Derived.Test.YthjklbonebnekaaGreatGbg
import Derived.Test.YthjklbonebnekaaGreatGbh
import Derived.Test.YthjklbonebnekaaGreatGbi
import Derived.Laws.StructEq
import Derived.Deep.Cut
set_option maxRecDepth 8000
set_option maxHeartbeats 4000000
namespace Go.Proofs.YthjklbonebnekaaGreat
open Go Go.RowKit
structure RunN_R (lo hi:Nat) (L:Lay) (r:Int) (e:BitVec 64) (x:MS × Nat × Tr Rz) (m:Nat) (B:Nat) (w:World) (n:Nat) (t:Tr Rz) (M:MS) (v:Value) (F:Nat → Prop) (wr:World):Prop where
 km:n ≤ m
 res:∃ y,runT r e (m - n) t M = some y ∧ x = (y.1,y.2.1+n,y.2.2)
 p:PT kR t F v wr
 bnd:Bnd F wr
 off:∀ j,F j → (j < lo ∨ hi ≤ j) ∧ j ≠ B ∧ j ≠ B+1+1
 mem:MemIn lo hi L M wr
 fr:Fr lo hi w wr
 box:∃ (y0 y1:Int) (a:Acc) (fn:Value),v = .agg #[.int .i64 y0,.int .u64 y1,.int .i64 a.op,.int .i64 a.at_,.int .u64 (U a.a),.int .u64 (U a.b),fn,.pointer none] ∧ (fn = .nilFunc ∨ ∃ g caps,fn = .func (.func g) #[] caps) ∧ wr.heap[B]? = some (.cells #[.int .i64 y0,.int .u64 y1,.int .i64 a.op,.int .i64 a.at_,.int .u64 (U a.a),.int .u64 (U a.b),fn,.pointer none] 99)
 cap:wr.heap[B+1]? = some (.cells #[.int .i64 r,.int .u64 (U e)] 49)
 rb:wr.heap[B+1+1]? = some (.cells #[.int .i64 0,.int .u64 0] 94)
def RunL_R (lo hi:Nat) (L:Lay) (r:Int) (e:BitVec 64) (x:MS × Nat × Tr Rz) (m:Nat) (B:Nat) (w:World) (i:Value) (wr:World):Prop:=
 ∃ (n:Nat) (t:Tr Rz) (M:MS) (v:Value) (F:Nat → Prop),i = .int .i64 (n:Int) ∧ RunN_R lo hi L r e x m B w n t M v F wr
theorem run_R {lo hi:Nat} {L:Lay} {M:MS} (t:Tr Rz) (F:Nat → Prop) (v:Value) (r:Int) (e:BitVec 64) (most:Int) (w:World) (x:MS × Nat × Tr Rz) (hmo:most ≤ 1099511627776) (hx:runT r e most.toNat t M = some x) (hP:PT kR t F v w) (hF:Bnd F w) (hO:∀ j,F j → j < lo ∨ hi ≤ j) (hM:MemIn lo hi L M w) :
  Calls Tryz.prog 37 #[v,.pointer (some ⟨L.bm,0,none⟩),.agg #[.int .i64 r,.int .u64 (U e)],.int .i64 most] w (RetR kR lo hi L x w):=by
 have HP:=Lib.hid hP
 have HM:=Lib.hid hM
 have hhi:=hM.top
 obtain ⟨y0,y1,a,fn,rfl,hfn⟩:=shR hP
 have HFN:=Lib.hid hfn
 clear hfn hP hM
 have HI:Hid (RunN_R lo hi L r e x most.toNat w.heap.size w 0 t M (.agg #[.int .i64 y0,.int .u64 y1,.int .i64 a.op,.int .i64 a.at_,.int .u64 (U a.a),.int .u64 (U a.b),fn,.pointer none]) F (((w.alloc (.cells #[.int .i64 y0,.int .u64 y1,.int .i64 a.op,.int .i64 a.at_,.int .u64 (U a.a),.int .u64 (U a.b),fn,.pointer none] 99)).alloc (.cells #[.int .i64 r,.int .u64 (U e)] 49)).alloc (.cells #[.int .i64 0,.int .u64 0] 94))):=by
  refine Lib.hid ⟨Nat.zero_le _,⟨x,hx,rfl⟩,?_,?_,fun j hj => ⟨hO j hj,fun h => by have:=hF j hj;omega,fun h => by have:=hF j hj;omega⟩,?_,?_,⟨y0,y1,a,fn,rfl,HFN.out,?_⟩,?_,?_⟩
  ·exact HP.out.agr (Agr.of_ext (by repeat (first | exact ext_refl _ | apply ext_alloc)) hF)
  ·exact hF.ext (by simp;omega)
  ·exact HM.out.ext (by repeat (first | exact ext_refl _ | apply ext_alloc))
  ·exact .of_ext (by repeat (first | exact ext_refl _ | apply ext_alloc))
  ·rw [Below.heap_alloc _ _ _ (by simp;omega),Below.heap_alloc _ _ _ (by simp)]
   exact heap_at w _ _ rfl
  ·exact (Below.heap_alloc _ _ _ (by simp)).trans (heap_at _ _ _ (by simp))
  ·exact heap_at _ _ _ (by simp)
 clear HP HM hF hO hx
 go_enter Tryz.func37,Tryz.ntmps37
 go_wp2
 go_loopw [11] (fun i wr => RunL_R lo hi L r e x most.toNat w.heap.size w i wr) (fun i _ => (most - intOf i).toNat)
 case atStart => exact ⟨0,_,_,_,_,rfl,HI.out⟩
 case round =>
  obtain ⟨n,t',M',v,F',rfl,hR⟩:=hrel
  have HR:=Lib.hid hR
  obtain ⟨y0,y1,a,fn,rfl,hfn1,hblk⟩:=hR.box
  have HFN1:=Lib.hid hfn1
  have HBK:=Lib.hid hblk
  obtain ⟨c0,c1,c2,c3,c4,c5,c6,c7,cz,ll⟩:=eit_of hblk
  have cp0:=cell_at (o:=0) hR.cap rfl
  have cp1:=cell_at (o:=1) hR.cap rfl
  have lp:=heap_lt hR.cap
  have hsz:=hR.fr.size
  have hkm:=hR.km
  clear hR hfn1 hblk HI HFN
  by_cases hlt:(n:Int) < most
  ·by_cases hst:Stays r e M' t'
   ·have hE:x = (M',n,t'):=by
     obtain ⟨y',h1,h2⟩:=HR.out.res
     rw [runT_stays hst] at h1
     cases h1
     simpa using h2
    have HE:=Lib.hid hE
    have HST:=Lib.hid hst
    clear hE hst
    obtain ⟨z0,z1,hz1⟩:=ans_R t'
    have HZ1:=Lib.hid hz1
    clear hz1
    rcases HFN1.out with rfl | ⟨g',caps',rfl⟩
    all_goals
     go_wp2_with (first
      | (go_at_call 52;refine (stay_R t' F' _ r e _ HR.out.p HR.out.mem HST.out).mono ?_;rintro e1 w0 ⟨rfl,hx⟩;have HX:=Lib.hid hx;clear hx;have c0:=ext_cell HX.out c0;have c1:=ext_cell HX.out c1;have c2:=ext_cell HX.out c2;have c3:=ext_cell HX.out c3;have c4:=ext_cell HX.out c4;have c5:=ext_cell HX.out c5;have c6:=ext_cell HX.out c6;have c7:=ext_cell HX.out c7;have ll1:=Nat.lt_of_lt_of_le ll HX.out.size)
      | (go_at_call 45;refine (over_R t' F' _ _ (HR.out.p.agr (Agr.of_ext (ext_trans HX.out (by repeat (first | exact ext_refl _ | apply ext_alloc))) HR.out.bnd)) z0 z1 _ HZ1 (Lib.hid rfl)).mono ?_;rintro e1 w1 ⟨rfl,hx⟩;replace hx:=ext_trans (ext_trans HX.out (by repeat (first | exact ext_refl _ | apply ext_alloc))) hx;refine Hid.out ?_))
     refine Lib.hid ?_
     have hMZ:=HR.out.mem.ext (by first | exact hx | exact ext_trans hx (by repeat (first | exact ext_refl _ | apply ext_alloc)))
     have hFZ:=HR.out.fr.ext (by first | exact hx | exact ext_trans hx (by repeat (first | exact ext_refl _ | apply ext_alloc)))
     have hxe:Ext wr w1:=(by first | exact hx | exact ext_trans hx (by repeat (first | exact ext_refl _ | apply ext_alloc)))
     have hRB:=(hxe.block _ (heap_lt HR.out.rb)).trans HR.out.rb
     have r0:=cell_at (o:=0) hRB rfl
     have r1:=cell_at (o:=1) hRB rfl
     have rz:∀ o,w1.frozen? ⟨w.heap.size+1+1,o,none⟩ = false:=fun _ => free_at hRB
     have rl:=heap_lt hRB
     have hZ:∀ o,RetR kR lo hi L x w (.returned (.tuple #[.agg #[.int .i64 z0,.int .u64 z1],.int .i64 (n:Int),.bool (ovT t')])) ((put2 (w.heap.size+1+1) (.int .i64 z0) (.int .u64 z1) w1).alloc o):=fun o => by
      rw [HE.out]
      exact ⟨by rw [← HZ1.out],(put2_mem _ _ hMZ (by omega)).alloc o,(put2_frNew _ _ hFZ (by omega)).alloc o⟩
     have hZB:∀ o,((put2 (w.heap.size+1+1) (.int .i64 z0) (.int .u64 z1) w1).alloc o).heap[w.heap.size+1+1]? = some (.cells #[.int .i64 z0,.int .u64 z1] 94):=fun o => (Below.heap_alloc _ _ _ (by rw [put2_size];exact rl)).trans (put2_block _ _ hRB)
     rw [put2] at hZ hZB
     have HZ:=Lib.hid hZ
     have HZB:=Lib.hid hZB
     clear hZ hZB hMZ hFZ hRB hx hxe
     go_wp2
     clear r0 r1 rz rl c0 c1 c2 c3 c4 c5 c6 c7 cz
     replace HZ:=HZ.out (.cells #[.int .i64 z0,.int .u64 z1] 94)
     replace HZB:=HZB.out (.cells #[.int .i64 z0,.int .u64 z1] 94)
     generalize (World.alloc _ (.cells #[.int .i64 z0,.int .u64 z1] 94)) = Z at HZ HZB ⊢
     have r0:=cell_at (o:=0) HZB rfl
     have r1:=cell_at (o:=1) HZB rfl
     exact bodyPost_ret (v:=.tuple #[.agg #[.int .i64 z0,.int .u64 z1],.int .i64 (n:Int),.bool (ovT t')]) (by simp [results,Tryz.results37,go_sem,r0,r1]) rfl HZ
   ·have hE:∃ a f,t' = .ask a f ∧ DoOk M' r e a.op a.at_:=by
     obtain ⟨y',h1,h2⟩:=HR.out.res
     rw [show most.toNat - n = (most.toNat - (n+1))+1 by omega] at h1
     cases t' with
     | done x => exact (hst trivial).elim
     | ask a f => exact ⟨a,f,rfl,by by_cases hd:DoOk M' r e a.op a.at_;exact hd;exact (hst hd).elim⟩
     | more => simp [runT] at h1
    obtain ⟨a3,f3,rfl,hd⟩:=hE
    have HD:=Lib.hid hd
    obtain ⟨x3,hx3⟩ : ∃ x3,Hid (M'.wd r.toNat a3.at_.toNat = x3):=⟨_,Lib.hid rfl⟩
    clear hd hst
    go_wp2_with (go_at_call 52;refine (stepA_R a3 f3 F' _ r e _ HR.out.p HR.out.bnd (fun j hj => (HR.out.off j hj).1) HR.out.mem HD.out x3 hx3).mono ?_;rintro e1 w1 ⟨v2,F2,rfl,hp,hbn,hsub,hm,hf⟩;refine Hid.out ?_)
    refine Lib.hid ?_
    have hs1:=hf.size
    have hB1:=(hf.block _ ll (.inr hhi)).trans HBK.out
    have hC1:=(hf.block _ lp (.inr (by omega))).trans HR.out.cap
    have hD1:=(hf.block _ (heap_lt HR.out.rb) (.inr (by omega))).trans HR.out.rb
    obtain ⟨y20,y21,a2,fn2,rfl,hfn2⟩:=shR hp
    have HFN2:=Lib.hid hfn2
    clear c0 c1 c2 c3 c4 c5 c6 c7 cz cp0 cp1 hfn2
    obtain ⟨c0,c1,c2,c3,c4,c5,c6,c7,cz,ll1⟩:=eit_of hB1
    have HS:Hid (∀ o,RunN_R lo hi L r e x most.toNat w.heap.size w (n+1) (f3 x3) (M'.done r a3.op a3.at_ a3.a a3.b) (.agg #[.int .i64 y20,.int .u64 y21,.int .i64 a2.op,.int .i64 a2.at_,.int .u64 (U a2.a),.int .u64 (U a2.b),fn2,.pointer none]) F2 ((put8 w.heap.size (.int .i64 y20) (.int .u64 y21) (.int .i64 a2.op) (.int .i64 a2.at_) (.int .u64 (U a2.a)) (.int .u64 (U a2.b)) (fn2) (.pointer none) w1).alloc o)):=by
     refine Lib.hid fun o => ⟨by omega,?_,?_,?_,?_,?_,?_,⟨y20,y21,a2,fn2,rfl,HFN2.out,?_⟩,?_,?_⟩
     ·obtain ⟨y',h1,h2⟩:=HR.out.res
      rw [show most.toNat - n = (most.toNat - (n+1))+1 by omega,runT,if_pos HD.out,hx3.out] at h1
      obtain ⟨y3,h3,h4⟩:=Option.map_eq_some_iff.1 h1
      subst h4
      exact ⟨y3,h3,by rw [h2];simp;omega⟩
     ·have hnB:¬ F2 w.heap.size:=fun h => by
       rcases hsub _ h with h | h
       ·exact (HR.out.off _ h).2.1 rfl
       ·omega
      exact (hp.agr (Agr.of_put8 _ _ _ _ _ _ _ _ hnB)).agr (Agr.of_ext (ext_alloc o (ext_refl _)) (hbn.ext (by rw [put8_size];exact Nat.le_refl _)))
     ·exact hbn.ext (by simp [put8_size])
     ·intro j hj
      rcases hsub j hj with h | h
      ·exact HR.out.off j h
      ·have:=heap_lt HR.out.rb
       exact ⟨.inr (by omega),by omega,by omega⟩
     ·exact (put8_mem _ _ _ _ _ _ _ _ hm hhi).alloc o
     ·exact (put8_frNew _ _ _ _ _ _ _ _ (HR.out.fr.trans hf) (Nat.le_refl _)).alloc o
     ·exact (Below.heap_alloc _ _ _ (by rw [put8_size];exact ll1)).trans (put8_block _ _ _ _ _ _ _ _ hB1)
     ·rw [Below.heap_alloc _ _ _ (by rw [put8_size];exact heap_lt hC1),put8_other _ _ _ _ _ _ _ _ (by omega)]
      exact hC1
     ·rw [Below.heap_alloc _ _ _ (by rw [put8_size];exact heap_lt hD1),put8_other _ _ _ _ _ _ _ _ (by omega)]
      exact hD1
    rw [put8] at HS
    clear hp hm hf hB1 hC1 hD1 HD hbn hsub
    rcases HFN2.out with rfl | ⟨g',caps',rfl⟩
    all_goals
     go_wp2
     exact ⟨⟨n+1,_,_,_,_,by go_num,HS.out _⟩,by simp [intOf];omega⟩
  ·have hE:x = (M',n,t'):=by
    obtain ⟨y',h1,h2⟩:=HR.out.res
    rw [show most.toNat - n = 0 by omega,runT] at h1
    cases h1
    simpa using h2
   have HE:=Lib.hid hE
   clear hE
   obtain ⟨z0,z1,hz1⟩:=ans_R t'
   have HZ1:=Lib.hid hz1
   clear hz1
   rcases HFN1.out with rfl | ⟨g',caps',rfl⟩
   all_goals
    go_wp2_with (go_at_call 45;refine (over_R t' F' _ _ HR.out.p z0 z1 _ HZ1 (Lib.hid rfl)).mono ?_;rintro e1 w1 ⟨rfl,hx⟩;refine Hid.out ?_)
    refine Lib.hid ?_
    have hMZ:=HR.out.mem.ext (by first | exact hx | exact ext_trans hx (by repeat (first | exact ext_refl _ | apply ext_alloc)))
    have hFZ:=HR.out.fr.ext (by first | exact hx | exact ext_trans hx (by repeat (first | exact ext_refl _ | apply ext_alloc)))
    have hxe:Ext wr w1:=(by first | exact hx | exact ext_trans hx (by repeat (first | exact ext_refl _ | apply ext_alloc)))
    have hRB:=(hxe.block _ (heap_lt HR.out.rb)).trans HR.out.rb
    have r0:=cell_at (o:=0) hRB rfl
    have r1:=cell_at (o:=1) hRB rfl
    have rz:∀ o,w1.frozen? ⟨w.heap.size+1+1,o,none⟩ = false:=fun _ => free_at hRB
    have rl:=heap_lt hRB
    have hZ:∀ o,RetR kR lo hi L x w (.returned (.tuple #[.agg #[.int .i64 z0,.int .u64 z1],.int .i64 (n:Int),.bool (ovT t')])) ((put2 (w.heap.size+1+1) (.int .i64 z0) (.int .u64 z1) w1).alloc o):=fun o => by
     rw [HE.out]
     exact ⟨by rw [← HZ1.out],(put2_mem _ _ hMZ (by omega)).alloc o,(put2_frNew _ _ hFZ (by omega)).alloc o⟩
    have hZB:∀ o,((put2 (w.heap.size+1+1) (.int .i64 z0) (.int .u64 z1) w1).alloc o).heap[w.heap.size+1+1]? = some (.cells #[.int .i64 z0,.int .u64 z1] 94):=fun o => (Below.heap_alloc _ _ _ (by rw [put2_size];exact rl)).trans (put2_block _ _ hRB)
    rw [put2] at hZ hZB
    have HZ:=Lib.hid hZ
    have HZB:=Lib.hid hZB
    clear hZ hZB hMZ hFZ hRB hx hxe
    go_wp2
    clear r0 r1 rz rl c0 c1 c2 c3 c4 c5 c6 c7 cz
    replace HZ:=HZ.out (.cells #[.int .i64 z0,.int .u64 z1] 94)
    replace HZB:=HZB.out (.cells #[.int .i64 z0,.int .u64 z1] 94)
    generalize (World.alloc _ (.cells #[.int .i64 z0,.int .u64 z1] 94)) = Z at HZ HZB ⊢
    have r0:=cell_at (o:=0) HZB rfl
    have r1:=cell_at (o:=1) HZB rfl
    exact bodyPost_ret (v:=.tuple #[.agg #[.int .i64 z0,.int .u64 z1],.int .i64 (n:Int),.bool (ovT t')]) (by simp [results,Tryz.results37,go_sem,r0,r1]) rfl HZ
instance grDec:DecidableEq Gr:=fun x y => decidable_of_iff (x.n = y.n ∧ x.g = y.g ∧ x.e = y.e) (by cases x;cases y;simp)
theorem word0:St.word ⟨0,0,0⟩ = 0#64:=by
 unfold St.word
 rw [if_pos (by unfold St.ok;decide)]
 rfl
theorem AIn.fresh {p:Pl} (hp:p.ok) {M:MS} (hF:FL p M (rfr p.n.toNat 0) 0) (hz:Zer p M) {t:Int} (h0:0 ≤ t) (h1:t < p.t):AIn p t M (rfr p.n.toNat 0) [] 0 (fun _ => ⟨0,0,0⟩) (fun _ => 0#64):=by
 refine ⟨hF,low_rts hp (zer_low hp hz) h0 h1,by simpa using hF.nd,fun n hn => ?_,fun _ _ => by unfold St.ok;decide,fun i hi => low_hz hp (zer_low hp hz) hi⟩
 rw [word0]
 exact hz _ (sd_ne hp hn hn).1 fun m hm => (sd_ne hp hn hm).2.1
section
variable {p:Pl} {lo hi:Nat} {L:Lay} {B:Nat} {w0:World} {bs:List (Nat × Obj)} {M M':MS} {wr wr':World}
end
theorem equalR2 (e v e' v':Int) (w:World) (d:Nat):(Op.equalIn (d+1+1) 94 (.agg #[.int .i64 e,.int .u64 v]) (.agg #[.int .i64 e',.int .u64 v'])).run Tryz.prog w = .ok (decide (e = e' ∧ v = v')) w:=by
 have h1:Tryz.prog.underlying 94 = some (.struct (Tryz.prog.fieldsOf 94)):=by kernel_rfl
 have h2:Tryz.prog.stoodInHeld 94 = false:=by kernel_rfl
 rw [run_equalIn_struct w _ _ _ _ h1 h2]
 have h3 : ((Tryz.prog.fieldsOf 94).toList.map fun f => (f.offset, f.type, decide (f.name = "_"))) = [(0, 35, false), (1, 40, false)] := by kernel_rfl
 generalize (Tryz.prog.fieldsOf 94).toList = fs at h3 ⊢
 match fs,h3 with
 | [],h3 => simp at h3
 | [_],h3 => simp at h3
 | _ :: _ :: _ :: _,h3 => simp at h3
 | [f0,f1],h3 =>
  simp only [List.map_cons,List.map_nil,List.cons.injEq,Prod.mk.injEq,and_true,decide_eq_false_iff_not] at h3
  obtain ⟨⟨o0,t0,n0⟩,o1,t1,n1⟩:=h3
  simp only [Op.eqFields,o0,o1,t0,t1]
  have p0:∀ (a b:Int) w,(part 35 #[.int .i64 a,.int .u64 b] 0).run Tryz.prog w = .ok (.int .i64 a) w:=fun a b w => by simp [part,go_sem]
  have p1:∀ (a b:Int) w,(part 40 #[.int .i64 a,.int .u64 b] 1).run Tryz.prog w = .ok (.int .u64 b) w:=fun a b w => by simp [part,go_sem]
  have q0:∀ a b w,(Op.equalIn (d+1) 35 (.int .i64 a) (.int .i64 b)).run Tryz.prog w = .ok (a == b) w:=fun a b w => run_equalIn_int w d _ _ _ _ _ Tryz.underlying35
  have q1:∀ a b w,(Op.equalIn (d+1) 40 (.int .u64 a) (.int .u64 b)).run Tryz.prog w = .ok (a == b) w:=fun a b w => run_equalIn_int w d _ _ _ _ _ Tryz.underlying40
  by_cases ha:e = e' <;> by_cases hb:v = v' <;> simp [n0,n1,p0,p1,q0,q1,ha,hb]
theorem eqR2 (e v e' v':Int) (b:Bool) (hb:decide (e = e' ∧ v = v') = b) (w:World):(binOp .eql 94 (.agg #[.int .i64 e,.int .u64 v]) (.agg #[.int .i64 e',.int .u64 v'])).run Tryz.prog w = .ok (.bool b) w:=by
 rw [run_eql_struct,equalR2 e v e' v' w 9998,hb]
 rfl
theorem gdR2 (op:BinOp) (x y:Operand) (xs ys:Array Value) (w:World):(eqGuard op 94 x y (.agg xs) (.agg ys)).run Tryz.prog w = .ok () w:=run_eqGuard_agg w op _ x y xs ys (by kernel_rfl)
def RetRR (lo hi:Nat) (L:Lay) (M':MS) (k:Nat) (x:Rz) (w:World) (e:Ending) (w':World):Prop:=
 e = .returned (.tuple #[.agg #[.int .i64 x.e,.int .u64 (U x.v)],.int .i64 (k:Int),.bool true]) ∧ MemIn lo hi L M' w' ∧ Fr lo hi w w'
theorem runR_any {lo hi:Nat} {L:Lay} {M M':MS} {t:Tr Rz} {k:Nat} {x:Rz} (hR:Runs t M k M' x) (most:Int) (hk:(k:Int) ≤ most) (hmo:most ≤ 1099511627776) (F:Nat → Prop) (v:Value) (w:World) (hP:PT kR t F v w) (hF:Bnd F w) (hO:∀ j,F j → j < lo ∨ hi ≤ j) (hM:MemIn lo hi L M w) :
  Calls Tryz.prog 37 #[v,.pointer (some ⟨L.bm,0,none⟩),.agg #[.int .i64 0,.int .u64 (U 1#64)],.int .i64 most] w (RetRR lo hi L M' k x w):=
 (run_R t F v 0 1#64 most w _ hmo (hR.run (by omega)) hP hF hO hM).mono fun _ _ h => h
theorem runR_at {lo hi:Nat} {L:Lay} {M M':MS} {t:Tr Rz} {k:Nat} {x:Rz} (hR:Runs t M k M' x) (e v:Int) (he:Hid (x.e = e)) (hv:Hid (U x.v = v)) (most:Int) (hk:(k:Int) ≤ most) (hmo:most ≤ 1099511627776) (F:Nat → Prop) (vv:Value) (w:World) (hP:PT kR t F vv w) (hF:Bnd F w) (hO:∀ j,F j → j < lo ∨ hi ≤ j) (hM:MemIn lo hi L M w) :
  Calls Tryz.prog 37 #[vv,.pointer (some ⟨L.bm,0,none⟩),.agg #[.int .i64 0,.int .u64 (U 1#64)],.int .i64 most] w fun en w' => en = .returned (.tuple #[.agg #[.int .i64 e,.int .u64 v],.int .i64 (k:Int),.bool true]) ∧ MemIn lo hi L M' w' ∧ Fr lo hi w w':=
 (runR_any hR most hk hmo F vv w hP hF hO hM).mono fun en w' ⟨h1,h2,h3⟩ => ⟨by rw [h1,he.out,hv.out],h2,h3⟩
theorem NIn.fresh {p:Pl} (hp:p.ok) {M:MS} (hF:FL p M (rfr p.n.toNat 0) 0) (hz:Zer p M):NIn p M (rfr p.n.toNat 0) 0 (fun _ => []) (fun _ => ⟨0,0,0⟩) (fun _ => 0#64) (fun _ _ => 0#64) (fun _ => 0#64):=by
 have ha:=fun t h0 h1 => AIn.fresh hp hF hz (t:=t) h0 h1
 have ht:(0:Int) < p.t:=by unfold Pl.ok at hp;omega
 have a0:=ha 0 (by omega) ht
 refine ⟨hF,fun t h0 h1 => (ha t h0 h1).rt,fun _ _ _ => List.nodup_nil,fun _ _ _ n hn => by simp at hn,fun _ _ _ _ _ _ _ n hn => by simp at hn,a0.st,a0.ok,a0.hz,fun n hn o h0 h1 => ?_,fun j h0 h1 => ?_⟩
 ·have f:=fd_pl hp hn h0 h1
  have:=hn.1
  refine hz _ (by omega) fun m hm => ?_
  have g:=fd_pl hp hm (o:=0) (by omega) (by omega)
  have:=hm.1
  omega
 ·obtain ⟨b1,b2,b3⟩:=lows hp
  refine hz _ (by omega) fun m hm => ?_
  have g:=fd_pl hp hm (o:=0) (by omega) (by omega)
  have:=hm.1
  omega
structure CBs (p:Pl) (lo hi:Nat) (L:Lay) (w0:World) (bs:List (Nat × Obj)) (M:MS) (wr:World):Prop where
 m:MemIn lo hi L M wr
 mg:Mg p M
 ex:Ext w0 wr
 bx:∀ x ∈ bs,((x.1 < lo ∨ hi ≤ x.1) ∧ w0.heap.size ≤ x.1) ∧ wr.heap[x.1]? = some x.2
section
variable {p:Pl} {lo hi:Nat} {L:Lay} {w0:World} {bs:List (Nat × Obj)} {M M':MS} {wr wr':World}
theorem CBs.ext (h:CBs p lo hi L w0 bs M wr) (hx:Ext wr wr'):CBs p lo hi L w0 bs M wr':=⟨h.m.ext hx,h.mg,ext_trans h.ex hx,fun x hb => ⟨(h.bx x hb).1,(hx.block _ (heap_lt (h.bx x hb).2)).trans (h.bx x hb).2⟩⟩
theorem CBs.ran (h:CBs p lo hi L w0 bs M wr) (hm:MemIn lo hi L M' wr') (hf:Fr lo hi wr wr') (hG:Mg p M') (h1:w0.heap.size ≤ lo):CBs p lo hi L w0 bs M' wr':=
 ⟨hm,hG,hf.below h.ex h1,fun x hb => ⟨(h.bx x hb).1,(hf.block _ (heap_lt (h.bx x hb).2) (h.bx x hb).1.1).trans (h.bx x hb).2⟩⟩
theorem CBs.new (h:CBs p lo hi L w0 bs M wr) (o:Obj):CBs p lo hi L w0 ((wr.heap.size,o) :: bs) M (wr.alloc o):=by
 have h1:=h.ext (ext_alloc o (ext_refl wr))
 refine ⟨h1.m,h1.mg,h1.ex,fun x hx => ?_⟩
 rcases List.mem_cons.1 hx with rfl | hx
 ·exact ⟨⟨.inr h.m.top,h.ex.size⟩,heap_at wr o _ rfl⟩
 ·exact h1.bx x hx
theorem CBs.sub (h:CBs p lo hi L w0 bs M wr) {cs:List (Nat × Obj)} (hs:∀ x ∈ cs,x ∈ bs):CBs p lo hi L w0 cs M wr:=⟨h.m,h.mg,h.ex,fun x hx => h.bx x (hs x hx)⟩
theorem CBs.at (h:CBs p lo hi L w0 bs M wr) {b:Nat} {o:Obj} (hb:(b,o) ∈ bs):wr.heap[b]? = some o:=(h.bx _ hb).2
end
theorem CBs.of {p:Pl} {lo hi:Nat} {L:Lay} {w0:World} {M:MS} {wr:World} (hm:MemIn lo hi L M wr) (hg:Mg p M) (hx:Ext w0 wr):CBs p lo hi L w0 [] M wr:=⟨hm,hg,hx,fun _ h => by simp at h⟩
theorem CBs.add {p:Pl} {lo hi:Nat} {L:Lay} {w0:World} {bs:List (Nat × Obj)} {M:MS} {wr:World} (h:CBs p lo hi L w0 bs M wr) {b:Nat} {o:Obj} (h1:b < lo ∨ hi ≤ b) (h2:w0.heap.size ≤ b) (h3:wr.heap[b]? = some o):CBs p lo hi L w0 ((b,o) :: bs) M wr:=
 ⟨h.m,h.mg,h.ex,fun x hx => by
  rcases List.mem_cons.1 hx with rfl | hx
  ·exact ⟨⟨h1,h2⟩,h3⟩
  ·exact h.bx x hx⟩
theorem hn_pos (h:Hn) (k:h.ok):0 < U h.word:=by
 rw [hU_word h k]
 unfold Hn.num
 unfold Hn.ok at k
 omega
abbrev p2s:Pl:=⟨2,1,4,0,1,1⟩
theorem small_any (w:World):Calls Tryz.prog 42 #[] w (Ret (plV p2s) w):=by
 go_enter Tryz.func42,Tryz.ntmps42
 go_wp2
 exact bodyPost_ret (v:=plV p2s) (by simp [results,Tryz.results42,go_sem]) rfl (Ret.mk (by repeat (first | exact ext_refl _ | apply ext_alloc | (refine ext_set _ ?_ ?_;exact Nat.le_refl _))))
end Go.Proofs.YthjklbonebnekaaGreat

