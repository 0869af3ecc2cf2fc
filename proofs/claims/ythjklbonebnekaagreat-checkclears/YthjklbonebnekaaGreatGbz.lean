/-
  The law CheckClears, walked. Conditions: those of each theorem.
-/
import Derived.Test.YthjklbonebnekaaGreatGbx
import Derived.Test.YthjklbonebnekaaGreatGby
set_option maxRecDepth 8000
set_option maxHeartbeats 4000000
namespace Go.Proofs.YthjklbonebnekaaGreat
open Go Go.RowKit
def ClRel (p:Pl) (th:Int) (lo hi:Nat) (L:Lay) (w:World) (base bp bs:Nat) (n:Nat) (vg vi:Value) (wr:World):Prop:=∃ (k:Nat) (M:MS) (S:S1) (T:Nat) (gr:List (BitVec 64)),vi = .int .i64 (k:Int) ∧ k ≤ n ∧
 CFs p lo hi L w base vg gr [(bs,.cells #[.int .i64 p.n,.int .i64 p.t,.int .i64 p.r,.int .i64 p.d,.int .i64 p.b,.int .i64 p.g,.int .i64 0,.int .i64 th] 82),(bp,.cells #[.int .i64 p.n,.int .i64 p.t,.int .i64 p.r,.int .i64 p.d,.int .i64 p.b,.int .i64 p.g] 23)] M wr ∧ Hid (J1 p th M S T ∧ gr.length ≤ k ∧ T ≤ 1200 * k)
def ClzRel (p:Pl) (th:Int) (lo hi:Nat) (L:Lay) (w:World) (base bp bs:Nat) (vg:Value) (gr:List (BitVec 64)) (M:MS) (vj:Value) (wr:World):Prop:=∃ j:Nat,vj = .int .i64 (j:Int) ∧ j ≤ 3 ∧ CFs p lo hi L w base vg gr [(bs,.cells #[.int .i64 p.n,.int .i64 p.t,.int .i64 p.r,.int .i64 p.d,.int .i64 p.b,.int .i64 p.g,.int .i64 0,.int .i64 th] 82),(bp,.cells #[.int .i64 p.n,.int .i64 p.t,.int .i64 p.r,.int .i64 p.d,.int .i64 p.b,.int .i64 p.g] 23)] M wr
theorem hz_peek {p:Pl} (hp:p.ok) {t:Int} (h0:0 ≤ t) (h1:t < p.t) {M:MS} {S:S1} {T:Nat} (h:J1 p t M S T) {j:Int} (j0:0 ≤ j) (j1:j < 3):0 ≤ p.hazF t j ∧ p.hazF t j < (M.sz (0:Int).toNat:Int) ∧ M.wd (0:Int).toNat (p.hazF t j).toNat = 0#64:=by
 obtain ⟨e1,e2⟩:=hazF_eq hp h0 h1 j0 j1
 have hs:=haz_size hp (i:=3 * t+j) (by omega) (by omega)
 refine ⟨by omega,?_,?_⟩
 ·show p.hazF t j < (M.sz 0:Int)
  rw [h.a.fl.mg.s]
  omega
 ·show M.wd 0 (p.hazF t j).toNat = _
  rw [e2]
  exact h.a.hz (3 * t+j).toNat (by omega)
theorem ccl_nofew (p:Pl) (a0:Option Addr) (n cap:Nat) (hf:¬ (p.few ∧ p.ok)) (w:World):Calls Tryz.prog 10 #[plV p,.slice a0 n cap] w (Ret (.bool true) w):=by
 have HFP:=Lib.hid hf
 clear hf
 go_enter Tryz.func10,Tryz.ntmps10
 go_wp2_with (first
  | (go_at_call 33;refine (r13wake_any _).mono ?_;rintro e w' hr;obtain ⟨rfl,sA,rfl⟩:=hr.over;clear hr)
  | (go_at_call 34;refine (r13few_any p _ false (hid_no HFP.out)).mono ?_;rintro e w' hr;obtain ⟨rfl,sA,rfl⟩:=hr.over;clear hr))
 go_ret
 exact Ret.mk (by repeat (first | exact ext_refl _ | apply ext_over | apply ext_alloc))
theorem ccl_long (p:Pl) (a0:Option Addr) (n cap:Nat) (hf:p.few ∧ p.ok) (hl:60 < n) (w:World):Calls Tryz.prog 10 #[plV p,.slice a0 n cap] w (Ret (.bool true) w):=by
 have HFP:=Lib.hid hf
 have q1:decide (60 < (n:Int)) = true:=decide_eq_true (by omega)
 clear hf hl
 go_enter Tryz.func10,Tryz.ntmps10
 go_wp2_with (first
  | (go_at_call 33;refine (r13wake_any _).mono ?_;rintro e w' hr;obtain ⟨rfl,sA,rfl⟩:=hr.over;clear hr)
  | (go_at_call 34;refine (r13few_any p _ true (hid_yes HFP.out)).mono ?_;rintro e w' hr;obtain ⟨rfl,sA,rfl⟩:=hr.over;clear hr))
 go_ret
 exact Ret.mk (by repeat (first | exact ext_refl _ | apply ext_over | apply ext_alloc))
theorem ccl_yes (p:Pl) (hf:p.few ∧ p.ok) (a0:Option Addr) (n cap:Nat) (f:Nat → PickR) (w:World) (hl:n ≤ 60) (hC:Hid (Pks w (.slice a0 n cap) n f)):Calls Tryz.prog 10 #[plV p,.slice a0 n cap] w (Ret (.bool true) w):=by
 have HFP:=Lib.hid hf
 have HP:=Lib.hid hf.2
 have hpt:1 ≤ p.t ∧ p.t ≤ 64:=by have:=hf.2.2.1;omega
 have q1:decide (60 < (n:Int)) = false:=decide_eq_false (by omega)
 have hw:wrap64 (p.t - 1) = p.t - 1:=by unfold wrap64;omega
 have hLd:∀ W,Calls Tryz.prog 14 #[plV p] W (RetLaidZ p W):=fun W => laidZ_any p HP.out W
 replace hLd:=Lib.hid hLd
 clear hf
 go_enter Tryz.func10,Tryz.ntmps10
 go_wp2_with (first
  | (go_at_call 33;refine (r13wake_any _).mono ?_;rintro e w' hr;obtain ⟨rfl,sA,rfl⟩:=hr.over;clear hr)
  | (go_at_call 34;refine (r13few_any p _ true (hid_yes HFP.out)).mono ?_;rintro e w' hr;obtain ⟨rfl,sB,rfl⟩:=hr.over;clear hr)
  | (go_at_call 14;refine Hid.out ?_))
 refine Lib.hid ?_
 clear hw
 obtain ⟨th,hth⟩ : ∃ th,p.t - 1 = th:=⟨_,rfl⟩
 have hth0:0 ≤ th ∧ th < p.t:=by omega
 rw [hth]
 clear hth hpt q1
 have hE0:Ext w (over (w.alloc (.cells #[.int .i64 p.n,.int .i64 p.t,.int .i64 p.r,.int .i64 p.d,.int .i64 p.b,.int .i64 p.g] 23)) (sA.comp sB)):=by repeat (first | exact ext_refl _ | apply ext_over | apply ext_alloc)
 have hb0:(over (w.alloc (.cells #[.int .i64 p.n,.int .i64 p.t,.int .i64 p.r,.int .i64 p.d,.int .i64 p.b,.int .i64 p.g] 23)) (sA.comp sB)).heap[w.heap.size]? = some (.cells #[.int .i64 p.n,.int .i64 p.t,.int .i64 p.r,.int .i64 p.d,.int .i64 p.b,.int .i64 p.g] 23):=((over_below _ (sA.comp sB)).block _ (by simp)).trans (heap_at w _ _ rfl)
 generalize over (w.alloc (.cells #[.int .i64 p.n,.int .i64 p.t,.int .i64 p.r,.int .i64 p.d,.int .i64 p.b,.int .i64 p.g] 23)) (sA.comp sB) = W at hE0 hb0 ⊢
 have hlW:=heap_lt hb0
 refine (hLd.out _).mono ?_
 rintro e w1 ⟨lo,hi,L,M,rfl,hM,hF,hx,hlo⟩
 have hxs:Ext W w1:=ext_trans (ext_alloc _ (ext_refl W)) hx
 have hb1:=(hxs.block _ hlW).trans hb0
 have hb2:w1.heap[W.heap.size]? = some (.cells #[.int .i64 p.n,.int .i64 p.t,.int .i64 p.r,.int .i64 p.d,.int .i64 p.b,.int .i64 p.g,.int .i64 0,.int .i64 th] 82):=(hx.block _ (by simp)).trans (heap_at W _ _ rfl)
 have hlo2:W.heap.size < lo:=Nat.lt_of_lt_of_le (by simp) hlo
 have hww:w.heap.size ≤ lo:=by omega
 have hhi:=hM.top
 have HI0:CFs p lo hi L w w1.heap.size (.slice none 0 0) [] [(W.heap.size,.cells #[.int .i64 p.n,.int .i64 p.t,.int .i64 p.r,.int .i64 p.d,.int .i64 p.b,.int .i64 p.g,.int .i64 0,.int .i64 th] 82),(w.heap.size,.cells #[.int .i64 p.n,.int .i64 p.t,.int .i64 p.r,.int .i64 p.d,.int .i64 p.b,.int .i64 p.g] 23)] M w1:=CFs.begin (((CBs.of hM hF.1.mg (ext_trans hE0 hxs)).add (b:=w.heap.size) (o:=.cells #[.int .i64 p.n,.int .i64 p.t,.int .i64 p.r,.int .i64 p.d,.int .i64 p.b,.int .i64 p.g] 23) (.inl (by omega)) (Nat.le_refl _) hb1).add (b:=W.heap.size) (o:=.cells #[.int .i64 p.n,.int .i64 p.t,.int .i64 p.r,.int .i64 p.d,.int .i64 p.b,.int .i64 p.g,.int .i64 0,.int .i64 th] 82) (.inl hlo2) hE0.size hb2)
 have hJ0:=J1.fresh HP.out hF.1 hF.2 th
 obtain ⟨bp,hbp⟩ : ∃ b,Hid (w.heap.size = b):=⟨_,Lib.hid rfl⟩
 rw [hbp.out] at HI0 ⊢
 have HS:Hid (ClRel p th lo hi L w w1.heap.size bp W.heap.size n (.slice none 0 0) (.int .i64 0) w1):=Lib.hid ⟨0,M,_,0,[],rfl,Nat.zero_le _,HI0,Lib.hid ⟨hJ0,Nat.le_refl _,by omega⟩⟩
 obtain ⟨base,hbase⟩ : ∃ b,Hid (w1.heap.size = b):=⟨_,Lib.hid rfl⟩
 rw [hbase.out] at HS
 clear hM hF hx hxs hb1 hb2 hlo hlo2 hE0 hb0 hLd HI0 hJ0 hbp hlW
 generalize W.heap.size = bs at HS ⊢
 go_wp2
 go_loopw [7,8] (fun vg vi wr => ClRel p th lo hi L w base bp bs n vg vi wr) (fun _ vi _ => ((n:Int) - intOf vi).toNat)
 case atStart => exact HS.out
 case round =>
  clear HS
  obtain ⟨k,M,S,T,gr,rfl,hk,hS,hD⟩:=hrel
  have HR:=Lib.hid hS
  have hhb:=hS.hb
  obtain ⟨va,vcap,rfl⟩:=hS.u.slice
  clear hS
  by_cases hlt:k < n
  ·have hlt2:(k:Int) < n:=by omega
   have HC:=Lib.hid (hC.out.ext HR.out.ex)
   obtain ⟨b,o,e1,hbl,hcs⟩:=HC.out.at (by omega)
   subst e1
   obtain ⟨q,hq⟩ : ∃ q,f k = q:=⟨_,rfl⟩
   have HQ:=hcs k hlt
   rw [hq] at HQ
   have HQ0:=Lib.hid HQ
   obtain ⟨d0,d1,d2,d3,d4,d5,d6,d7,l6,l7⟩:=HQ
   clear hcs hq HC d6 d7 l7
   go_upto_region 12 with (fail)
   have HA:=Lib.hid (HR.out.new (.cells #[.int .i64 q.code,.int .i64 q.d,.int .i64 q.f,.int .u64 (U q.h),.int .u64 (U q.a),.int .u64 (U q.b)] 89))
   have hrs:=HR.out.sz
   have hb8:=heap_lt (HR.out.at (b:=bs) (o:=.cells #[.int .i64 p.n,.int .i64 p.t,.int .i64 p.r,.int .i64 p.d,.int .i64 p.b,.int .i64 p.g,.int .i64 0,.int .i64 th] 82) (by simp))
   have hb9:=heap_lt (HR.out.at (b:=bp) (o:=.cells #[.int .i64 p.n,.int .i64 p.t,.int .i64 p.r,.int .i64 p.d,.int .i64 p.b,.int .i64 p.g] 23) (by simp))
   have HE9:=Lib.hid (ext_alloc (.cells #[.int .i64 q.code,.int .i64 q.d,.int .i64 q.f,.int .u64 (U q.h),.int .u64 (U q.a),.int .u64 (U q.b)] 89) (ext_refl wr))
   clear HR d0 d1 d2 d3 d4 d5
   obtain ⟨bo,hbo⟩ : ∃ z,wr.heap.size = z:=⟨_,rfl⟩
   have hbo2:hi ≤ bo:=by omega
   rw [hbo] at HA hb8 hb9 ⊢
   have HQ9:=HQ0.out.ext HE9.out
   generalize wr.alloc (.cells #[.int .i64 q.code,.int .i64 q.d,.int .i64 q.f,.int .u64 (U q.h),.int .u64 (U q.a),.int .u64 (U q.b)] 89) = wx at HA HQ9 ⊢
   have HQ1:=Lib.hid HQ9
   clear hbo HE9 HQ0 HQ9 hrs
   have d6:=HQ1.out.c6
   have hbl:=cell_lt d6
   have ewo:wrap64 q.of = q.of:=by unfold wrap64;omega
   have hnb:∀ y ∈ ([(bs,.cells #[.int .i64 p.n,.int .i64 p.t,.int .i64 p.r,.int .i64 p.d,.int .i64 p.b,.int .i64 p.g,.int .i64 0,.int .i64 th] 82),(bp,.cells #[.int .i64 p.n,.int .i64 p.t,.int .i64 p.r,.int .i64 p.d,.int .i64 p.b,.int .i64 p.g] 23)]:List (Nat × Obj)),y.1 ≠ bo:=fun y hy => by
    simp only [List.mem_cons,List.mem_nil_iff,or_false] at hy
    rcases hy with rfl | rfl
    ·show bs ≠ bo
     omega
    ·show bp ≠ bo
     omega
   by_cases hof:0 ≤ q.of ∧ q.of < (gr.length:Int)
   ·obtain ⟨m,hm⟩ : ∃ m:Nat,q.of = (m:Int):=⟨q.of.toNat,by omega⟩
    rw [hm] at d6 ewo
    have hml:m < gr.length:=by omega
    have hml2:(m:Int) < (gr.length:Int):=by omega
    obtain ⟨bg,og,e2,hgl,hgc⟩:=HA.out.u.is.at (by omega)
    subst e2
    have dg:=hgc m hml
    obtain ⟨hh,hhh⟩ : ∃ z,uN gr m = z:=⟨_,rfl⟩
    rw [hhh] at dg
    have hz_b:=HA.out.at (b:=bo) (o:=.cells #[.int .i64 q.code,.int .i64 q.d,.int .i64 q.f,.int .u64 (U q.h),.int .u64 (U q.a),.int .u64 (U q.b)] 89) (by simp)
    have z0:=cell_at (o:=0) hz_b rfl
    have z1:=cell_at (o:=1) hz_b rfl
    have z2:=cell_at (o:=2) hz_b rfl
    have z3:=cell_at (o:=3) hz_b rfl
    have z4:=cell_at (o:=4) hz_b rfl
    have z5:=cell_at (o:=5) hz_b rfl
    have zl:=heap_lt hz_b
    clear hz_b
    have hst:=HA.out.setc 3 (.int .u64 (U hh)) hbo2 hnb
    simp only [List.setIfInBounds_toArray,List.set_cons_zero,List.set_cons_succ] at hst
    replace hst:=Lib.hid hst
    have dz:∀ z,wx.frozen? ⟨bo,z,none⟩ = false:=fun z => free_at (HA.out.at (b:=bo) (o:=.cells #[.int .i64 q.code,.int .i64 q.d,.int .i64 q.f,.int .u64 (U q.h),.int .u64 (U q.a),.int .u64 (U q.b)] 89) (by simp))
    clear HA hgc hhh hm
    go_upto_region 14 with (fail)
    clear d6 ewo dg z0 z1 z2 z3 z4 z5 zl dz
    have hst2:=hst.out
    clear hst
    generalize (World.setCell wx (⟨bo,3,none⟩ : Addr) _) = wy at hst2 ⊢
    have HB:=Lib.hid hst2
    clear hst2 hof hml hml2
    have hbs9:=HB.out.sz
    obtain ⟨M1,c1,T1,r1,hc1,hT1,j1,_⟩:=hD.out.1.op_run HP.out hth0.1 hth0.2 (by have:=hD.out.2.2;omega) (tn:=0) (by omega) q.code q.f hh q.a q.b
    obtain ⟨S2,hS2⟩ : ∃ z,(S.op p 0 q.code q.f hh q.a q.b).1 = z:=⟨_,rfl⟩
    obtain ⟨r9,hr9⟩ : ∃ z,(S.op p 0 q.code q.f hh q.a q.b).2 = z:=⟨_,rfl⟩
    rw [hS2] at j1
    rw [hr9] at r1
    have HR1:=Lib.hid r1
    have HG1:=Lib.hid j1.a.fl.mg
    have HJ:=Lib.hid (And.intro j1 hT1)
    have HCC:=Lib.hid hc1
    clear r1 j1 hT1 hc1 hS2 hr9
    have hx_b:=HB.out.at (b:=bs) (o:=.cells #[.int .i64 p.n,.int .i64 p.t,.int .i64 p.r,.int .i64 p.d,.int .i64 p.b,.int .i64 p.g,.int .i64 0,.int .i64 th] 82) (by simp)
    have x0:=cell_at (o:=0) hx_b rfl
    have x1:=cell_at (o:=1) hx_b rfl
    have x2:=cell_at (o:=2) hx_b rfl
    have x3:=cell_at (o:=3) hx_b rfl
    have x4:=cell_at (o:=4) hx_b rfl
    have x5:=cell_at (o:=5) hx_b rfl
    have x6:=cell_at (o:=6) hx_b rfl
    have x7:=cell_at (o:=7) hx_b rfl
    have xl:=heap_lt hx_b
    clear hx_b
    have hz_b:=HB.out.at (b:=bo) (o:=.cells #[.int .i64 q.code,.int .i64 q.d,.int .i64 q.f,.int .u64 (U hh),.int .u64 (U q.a),.int .u64 (U q.b)] 89) (by simp)
    have z0:=cell_at (o:=0) hz_b rfl
    have z1:=cell_at (o:=1) hz_b rfl
    have z2:=cell_at (o:=2) hz_b rfl
    have z3:=cell_at (o:=3) hz_b rfl
    have z4:=cell_at (o:=4) hz_b rfl
    have z5:=cell_at (o:=5) hz_b rfl
    have zl:=heap_lt hz_b
    clear hz_b
    go_wp2_with (go_at_call 38;refine (made_PT ⟨p,0,th⟩ q.code q.d q.f hh q.a q.b _).mono ?_;rintro e w3 ⟨v1,F1,rfl,hx2,hp1,hbn1,hsub1⟩;refine Hid.out ?_)
    refine Lib.hid ?_
    have HOF1:=Lib.hid (fun j (hj:F1 j) => (hsub1 j hj).elim (fun h => h.elim) fun h => (.inr (Nat.le_trans HB.out.m.top h):j < lo ∨ hi ≤ j))
    have HBq:=Lib.hid (HB.out.ext hx2)
    have HP1:=Lib.hid hp1
    have HBN1:=Lib.hid hbn1
    clear hx2 hp1 hbn1 hsub1
    go_wp2_with (go_at_call 18;refine (cap_int HBq.out.m 0 1#64 (by omega) (by rw [HBq.out.mg.n];omega) (Lib.hid HBq.out.mg.e)).mono ?_;rintro e w4 ⟨rfl,hx3⟩;refine Hid.out ?_)
    refine Lib.hid ?_
    have HBr:=Lib.hid (HBq.out.ext hx3)
    replace HP1:=Lib.hid (HP1.out.agr (Agr.of_ext hx3 HBN1.out))
    replace HBN1:=Lib.hid (HBN1.out.ext hx3.size)
    clear hx3
    go_wp2_with (go_at_call 37;refine (runR_at HR1.out r9.e (U r9.v) (Lib.hid rfl) (Lib.hid rfl) 100000 (by have:=HCC.out;omega) (by omega) F1 v1 w4 HP1.out HBN1.out HOF1.out HBr.out.m).mono ?_;rintro e w5 ⟨rfl,hm4,hf4⟩;refine Hid.out ?_)
    refine Lib.hid ?_
    have HEs:=Lib.hid (HBr.out.ran hm4 hf4 HG1.out (by omega))
    clear hm4 hf4 HP1 HBN1 HOF1 HB HBq HBr HR1 x0 x1 x2 x3 x4 x5 x6 x7 xl z0 z1 z2 z3 z4 z5 zl
    go_upto_region 15 with (fail)
    have HE:=Lib.hid (HEs.out.new (.cells #[.int .i64 r9.e,.int .u64 (U r9.v)] 94))
    clear HEs
    generalize w5.alloc (.cells #[.int .i64 r9.e,.int .u64 (U r9.v)] 94) = wx at HE ⊢
    generalize w5.heap.size = r1 at HE ⊢
    have hz_b:=HE.out.at (b:=bo) (o:=.cells #[.int .i64 q.code,.int .i64 q.d,.int .i64 q.f,.int .u64 (U hh),.int .u64 (U q.a),.int .u64 (U q.b)] 89) (by simp)
    have z0:=cell_at (o:=0) hz_b rfl
    have z1:=cell_at (o:=1) hz_b rfl
    have z2:=cell_at (o:=2) hz_b rfl
    have z3:=cell_at (o:=3) hz_b rfl
    have z4:=cell_at (o:=4) hz_b rfl
    have z5:=cell_at (o:=5) hz_b rfl
    have zl:=heap_lt hz_b
    clear hz_b
    have hy_b:=HE.out.at (b:=r1) (o:=.cells #[.int .i64 r9.e,.int .u64 (U r9.v)] 94) (by simp)
    have y0:=cell_at (o:=0) hy_b rfl
    have y1:=cell_at (o:=1) hy_b rfl
    have yl:=heap_lt hy_b
    clear hy_b
    by_cases hcd:q.code = 1
    ·by_cases hce:r9.e = 0
     ·have dcd:(q.code == 1) = true:=beq_iff_eq.2 hcd
      have dce:(r9.e == 0) = true:=beq_iff_eq.2 hce
      have hml9:gr.length ≤ 2000000:=by have:=hD.out.2.1;omega
      have HE2:=Lib.hid (HE.out.sub (cs:=[(bs,.cells #[.int .i64 p.n,.int .i64 p.t,.int .i64 p.r,.int .i64 p.d,.int .i64 p.b,.int .i64 p.g,.int .i64 0,.int .i64 th] 82),(bp,.cells #[.int .i64 p.n,.int .i64 p.t,.int .i64 p.r,.int .i64 p.d,.int .i64 p.b,.int .i64 p.g] 23)]) (fun x hx => List.mem_cons_of_mem _ (List.mem_cons_of_mem _ hx)))
      have hbs8:=HE.out.sz
      clear HE hcd hce
      go_wp2_with (at_builtin;go_loud (refine wpList_urow rfl (.tmp 92) (.tmp 95) rfl base _ gr rfl (HE2.out.u.ext (ext_alloc _ (ext_refl wx))) ⟨wx.heap.size,0,none⟩ r9.v rfl (newy _ _ _ _ rfl) hml9 (by simp;omega) ?_);intro v6 wz hv6 hg6 hn6;refine Hid.out ?_)
      refine Lib.hid ?_
      have HX:=Lib.hid ((HE2.out.ext (ext_alloc _ (ext_refl wx))).grow hv6 hg6 hn6)
      obtain ⟨va6,vc6,rfl⟩ : ∃ a c,v6 = .slice a (gr.length+1) c:=by
       obtain ⟨a,c,e⟩:=hv6.slice
       exact ⟨a,c,by rw [e,List.length_append];rfl⟩
      clear HE2 hv6 hg6 hn6 hml9 hbs8 dcd dce y0 y1 yl z0 z1 z2 z3 z4 z5 zl
      have HS3:Hid (ClzRel p th lo hi L w base bp bs (.slice va6 (gr.length+1) vc6) (gr ++ [r9.v]) M1 (.int .i64 0) wz):=Lib.hid ⟨0,rfl,by omega,HX.out⟩
      clear HX
      go_wp2
      go_loopw [13] (fun vj wr => ClzRel p th lo hi L w base bp bs (.slice va6 (gr.length+1) vc6) (gr ++ [r9.v]) M1 vj wr) (fun vj _ => (3 - intOf vj).toNat)
      case atStart => exact HS3.out
      case round =>
       clear HS3
       obtain ⟨j,rfl,hj,hS3⟩:=hrel
       have HZ:=Lib.hid hS3
       clear hS3
       by_cases hjl:(j:Int) < 3
       ·obtain ⟨g0,g1,g2⟩:=hz_peek HP.out hth0.1 hth0.2 HJ.out.1 (j:=(j:Int)) (by omega) hjl
        have HPK:=Lib.hid (And.intro g0 (And.intro g1 g2))
        have hu0:U (0#64) = 0:=U_0
        clear g0 g1 g2
        have hx_b:=HZ.out.at (b:=bs) (o:=.cells #[.int .i64 p.n,.int .i64 p.t,.int .i64 p.r,.int .i64 p.d,.int .i64 p.b,.int .i64 p.g,.int .i64 0,.int .i64 th] 82) (by simp)
        have x0:=cell_at (o:=0) hx_b rfl
        have x1:=cell_at (o:=1) hx_b rfl
        have x2:=cell_at (o:=2) hx_b rfl
        have x3:=cell_at (o:=3) hx_b rfl
        have x4:=cell_at (o:=4) hx_b rfl
        have x5:=cell_at (o:=5) hx_b rfl
        have x6:=cell_at (o:=6) hx_b rfl
        have x7:=cell_at (o:=7) hx_b rfl
        have xl:=heap_lt hx_b
        clear hx_b
        have hz_b:=HZ.out.at (b:=bp) (o:=.cells #[.int .i64 p.n,.int .i64 p.t,.int .i64 p.r,.int .i64 p.d,.int .i64 p.b,.int .i64 p.g] 23) (by simp)
        have z0:=cell_at (o:=0) hz_b rfl
        have z1:=cell_at (o:=1) hz_b rfl
        have z2:=cell_at (o:=2) hz_b rfl
        have z3:=cell_at (o:=3) hz_b rfl
        have z4:=cell_at (o:=4) hz_b rfl
        have z5:=cell_at (o:=5) hz_b rfl
        have zl:=heap_lt hz_b
        clear hz_b
        go_wp2_with (first
         | (go_at_call 54;refine (hazard_any p th (j:Int) _).mono ?_;rintro e wq ⟨rfl,hx9⟩;have HZ1:=Lib.hid (HZ.out.ext hx9);clear hx9)
         | (go_at_call 20;refine (peek_int HZ1.out.m 0 (p.hazF th (j:Int)) 0 (by omega) (by rw [HZ1.out.mg.n];omega) HPK.out.1 HPK.out.2.1 (Lib.hid (by rw [HPK.out.2.2];exact U_0))).mono ?_;rintro e wq2 ⟨rfl,hx9⟩;have HZ2:=Lib.hid (HZ1.out.ext hx9);clear hx9))
        exact ⟨⟨j+1,by go_num,by omega,HZ2.out⟩,by simp [intOf];omega⟩
       ·have hjd:¬ (j:Int) < 3:=hjl
        go_wp2
        exact ⟨⟨k+1,M1,S2,T1,(gr ++ [r9.v]),by go_num,by omega,HZ.out,Lib.hid ⟨HJ.out.1,by have:=hD.out.2.1;rw [List.length_append];simp;omega,by have:=HJ.out.2;have:=hD.out.2.2;omega⟩⟩,by simp [intOf];omega⟩
     ·have dcd:(q.code == 1) = true:=beq_iff_eq.2 hcd
      have dce:(r9.e == 0) = false:=beq_eq_false_iff_ne.2 hce
      clear hcd hce
      have HX:=Lib.hid (HE.out.sub (cs:=[(bs,.cells #[.int .i64 p.n,.int .i64 p.t,.int .i64 p.r,.int .i64 p.d,.int .i64 p.b,.int .i64 p.g,.int .i64 0,.int .i64 th] 82),(bp,.cells #[.int .i64 p.n,.int .i64 p.t,.int .i64 p.r,.int .i64 p.d,.int .i64 p.b,.int .i64 p.g] 23)]) (fun x hx => List.mem_cons_of_mem _ (List.mem_cons_of_mem _ hx)))
      clear HE
      go_upto_region 17 with (fail)
      clear dcd dce y0 y1 yl z0 z1 z2 z3 z4 z5 zl
      generalize wx = wz at HX ⊢
      have HS3:Hid (ClzRel p th lo hi L w base bp bs (.slice (some ⟨bg,og,none⟩) gr.length vcap) gr M1 (.int .i64 0) wz):=Lib.hid ⟨0,rfl,by omega,HX.out⟩
      clear HX
      go_wp2
      go_loopw [13] (fun vj wr => ClzRel p th lo hi L w base bp bs (.slice (some ⟨bg,og,none⟩) gr.length vcap) gr M1 vj wr) (fun vj _ => (3 - intOf vj).toNat)
      case atStart => exact HS3.out
      case round =>
       clear HS3
       obtain ⟨j,rfl,hj,hS3⟩:=hrel
       have HZ:=Lib.hid hS3
       clear hS3
       by_cases hjl:(j:Int) < 3
       ·obtain ⟨g0,g1,g2⟩:=hz_peek HP.out hth0.1 hth0.2 HJ.out.1 (j:=(j:Int)) (by omega) hjl
        have HPK:=Lib.hid (And.intro g0 (And.intro g1 g2))
        have hu0:U (0#64) = 0:=U_0
        clear g0 g1 g2
        have hx_b:=HZ.out.at (b:=bs) (o:=.cells #[.int .i64 p.n,.int .i64 p.t,.int .i64 p.r,.int .i64 p.d,.int .i64 p.b,.int .i64 p.g,.int .i64 0,.int .i64 th] 82) (by simp)
        have x0:=cell_at (o:=0) hx_b rfl
        have x1:=cell_at (o:=1) hx_b rfl
        have x2:=cell_at (o:=2) hx_b rfl
        have x3:=cell_at (o:=3) hx_b rfl
        have x4:=cell_at (o:=4) hx_b rfl
        have x5:=cell_at (o:=5) hx_b rfl
        have x6:=cell_at (o:=6) hx_b rfl
        have x7:=cell_at (o:=7) hx_b rfl
        have xl:=heap_lt hx_b
        clear hx_b
        have hz_b:=HZ.out.at (b:=bp) (o:=.cells #[.int .i64 p.n,.int .i64 p.t,.int .i64 p.r,.int .i64 p.d,.int .i64 p.b,.int .i64 p.g] 23) (by simp)
        have z0:=cell_at (o:=0) hz_b rfl
        have z1:=cell_at (o:=1) hz_b rfl
        have z2:=cell_at (o:=2) hz_b rfl
        have z3:=cell_at (o:=3) hz_b rfl
        have z4:=cell_at (o:=4) hz_b rfl
        have z5:=cell_at (o:=5) hz_b rfl
        have zl:=heap_lt hz_b
        clear hz_b
        go_wp2_with (first
         | (go_at_call 54;refine (hazard_any p th (j:Int) _).mono ?_;rintro e wq ⟨rfl,hx9⟩;have HZ1:=Lib.hid (HZ.out.ext hx9);clear hx9)
         | (go_at_call 20;refine (peek_int HZ1.out.m 0 (p.hazF th (j:Int)) 0 (by omega) (by rw [HZ1.out.mg.n];omega) HPK.out.1 HPK.out.2.1 (Lib.hid (by rw [HPK.out.2.2];exact U_0))).mono ?_;rintro e wq2 ⟨rfl,hx9⟩;have HZ2:=Lib.hid (HZ1.out.ext hx9);clear hx9))
        exact ⟨⟨j+1,by go_num,by omega,HZ2.out⟩,by simp [intOf];omega⟩
       ·have hjd:¬ (j:Int) < 3:=hjl
        go_wp2
        exact ⟨⟨k+1,M1,S2,T1,gr,by go_num,by omega,HZ.out,Lib.hid ⟨HJ.out.1,by have:=hD.out.2.1;omega,by have:=HJ.out.2;have:=hD.out.2.2;omega⟩⟩,by simp [intOf];omega⟩
    ·have dcd:(q.code == 1) = false:=beq_eq_false_iff_ne.2 hcd
     clear hcd
     have HX:=Lib.hid (HE.out.sub (cs:=[(bs,.cells #[.int .i64 p.n,.int .i64 p.t,.int .i64 p.r,.int .i64 p.d,.int .i64 p.b,.int .i64 p.g,.int .i64 0,.int .i64 th] 82),(bp,.cells #[.int .i64 p.n,.int .i64 p.t,.int .i64 p.r,.int .i64 p.d,.int .i64 p.b,.int .i64 p.g] 23)]) (fun x hx => List.mem_cons_of_mem _ (List.mem_cons_of_mem _ hx)))
     clear HE
     go_upto_region 17 with (fail)
     clear dcd y0 y1 yl z0 z1 z2 z3 z4 z5 zl
     generalize wx = wz at HX ⊢
     have HS3:Hid (ClzRel p th lo hi L w base bp bs (.slice (some ⟨bg,og,none⟩) gr.length vcap) gr M1 (.int .i64 0) wz):=Lib.hid ⟨0,rfl,by omega,HX.out⟩
     clear HX
     go_wp2
     go_loopw [13] (fun vj wr => ClzRel p th lo hi L w base bp bs (.slice (some ⟨bg,og,none⟩) gr.length vcap) gr M1 vj wr) (fun vj _ => (3 - intOf vj).toNat)
     case atStart => exact HS3.out
     case round =>
      clear HS3
      obtain ⟨j,rfl,hj,hS3⟩:=hrel
      have HZ:=Lib.hid hS3
      clear hS3
      by_cases hjl:(j:Int) < 3
      ·obtain ⟨g0,g1,g2⟩:=hz_peek HP.out hth0.1 hth0.2 HJ.out.1 (j:=(j:Int)) (by omega) hjl
       have HPK:=Lib.hid (And.intro g0 (And.intro g1 g2))
       have hu0:U (0#64) = 0:=U_0
       clear g0 g1 g2
       have hx_b:=HZ.out.at (b:=bs) (o:=.cells #[.int .i64 p.n,.int .i64 p.t,.int .i64 p.r,.int .i64 p.d,.int .i64 p.b,.int .i64 p.g,.int .i64 0,.int .i64 th] 82) (by simp)
       have x0:=cell_at (o:=0) hx_b rfl
       have x1:=cell_at (o:=1) hx_b rfl
       have x2:=cell_at (o:=2) hx_b rfl
       have x3:=cell_at (o:=3) hx_b rfl
       have x4:=cell_at (o:=4) hx_b rfl
       have x5:=cell_at (o:=5) hx_b rfl
       have x6:=cell_at (o:=6) hx_b rfl
       have x7:=cell_at (o:=7) hx_b rfl
       have xl:=heap_lt hx_b
       clear hx_b
       have hz_b:=HZ.out.at (b:=bp) (o:=.cells #[.int .i64 p.n,.int .i64 p.t,.int .i64 p.r,.int .i64 p.d,.int .i64 p.b,.int .i64 p.g] 23) (by simp)
       have z0:=cell_at (o:=0) hz_b rfl
       have z1:=cell_at (o:=1) hz_b rfl
       have z2:=cell_at (o:=2) hz_b rfl
       have z3:=cell_at (o:=3) hz_b rfl
       have z4:=cell_at (o:=4) hz_b rfl
       have z5:=cell_at (o:=5) hz_b rfl
       have zl:=heap_lt hz_b
       clear hz_b
       go_wp2_with (first
        | (go_at_call 54;refine (hazard_any p th (j:Int) _).mono ?_;rintro e wq ⟨rfl,hx9⟩;have HZ1:=Lib.hid (HZ.out.ext hx9);clear hx9)
        | (go_at_call 20;refine (peek_int HZ1.out.m 0 (p.hazF th (j:Int)) 0 (by omega) (by rw [HZ1.out.mg.n];omega) HPK.out.1 HPK.out.2.1 (Lib.hid (by rw [HPK.out.2.2];exact U_0))).mono ?_;rintro e wq2 ⟨rfl,hx9⟩;have HZ2:=Lib.hid (HZ1.out.ext hx9);clear hx9))
       exact ⟨⟨j+1,by go_num,by omega,HZ2.out⟩,by simp [intOf];omega⟩
      ·have hjd:¬ (j:Int) < 3:=hjl
       go_wp2
       exact ⟨⟨k+1,M1,S2,T1,gr,by go_num,by omega,HZ.out,Lib.hid ⟨HJ.out.1,by have:=hD.out.2.1;omega,by have:=HJ.out.2;have:=hD.out.2.2;omega⟩⟩,by simp [intOf];omega⟩
   ·clear hnb
    have hof2:¬ (0 ≤ q.of ∧ q.of < (gr.length:Int)):=hof
    have HB:=HA
    clear HA
    by_cases ho0:0 ≤ q.of
    ·have ho1:¬ q.of < (gr.length:Int):=fun h => hof ⟨ho0,h⟩
     have ho1d:decide (q.of < (gr.length:Int)) = false:=decide_eq_false ho1
     clear hof hof2
     go_upto_region 14 with (fail)
     clear d6 ewo ho1d ho1 ho0
     have hbs9:=HB.out.sz
     obtain ⟨M1,c1,T1,r1,hc1,hT1,j1,_⟩:=hD.out.1.op_run HP.out hth0.1 hth0.2 (by have:=hD.out.2.2;omega) (tn:=0) (by omega) q.code q.f q.h q.a q.b
     obtain ⟨S2,hS2⟩ : ∃ z,(S.op p 0 q.code q.f q.h q.a q.b).1 = z:=⟨_,rfl⟩
     obtain ⟨r9,hr9⟩ : ∃ z,(S.op p 0 q.code q.f q.h q.a q.b).2 = z:=⟨_,rfl⟩
     rw [hS2] at j1
     rw [hr9] at r1
     have HR1:=Lib.hid r1
     have HG1:=Lib.hid j1.a.fl.mg
     have HJ:=Lib.hid (And.intro j1 hT1)
     have HCC:=Lib.hid hc1
     clear r1 j1 hT1 hc1 hS2 hr9
     have hx_b:=HB.out.at (b:=bs) (o:=.cells #[.int .i64 p.n,.int .i64 p.t,.int .i64 p.r,.int .i64 p.d,.int .i64 p.b,.int .i64 p.g,.int .i64 0,.int .i64 th] 82) (by simp)
     have x0:=cell_at (o:=0) hx_b rfl
     have x1:=cell_at (o:=1) hx_b rfl
     have x2:=cell_at (o:=2) hx_b rfl
     have x3:=cell_at (o:=3) hx_b rfl
     have x4:=cell_at (o:=4) hx_b rfl
     have x5:=cell_at (o:=5) hx_b rfl
     have x6:=cell_at (o:=6) hx_b rfl
     have x7:=cell_at (o:=7) hx_b rfl
     have xl:=heap_lt hx_b
     clear hx_b
     have hz_b:=HB.out.at (b:=bo) (o:=.cells #[.int .i64 q.code,.int .i64 q.d,.int .i64 q.f,.int .u64 (U q.h),.int .u64 (U q.a),.int .u64 (U q.b)] 89) (by simp)
     have z0:=cell_at (o:=0) hz_b rfl
     have z1:=cell_at (o:=1) hz_b rfl
     have z2:=cell_at (o:=2) hz_b rfl
     have z3:=cell_at (o:=3) hz_b rfl
     have z4:=cell_at (o:=4) hz_b rfl
     have z5:=cell_at (o:=5) hz_b rfl
     have zl:=heap_lt hz_b
     clear hz_b
     go_wp2_with (go_at_call 38;refine (made_PT ⟨p,0,th⟩ q.code q.d q.f q.h q.a q.b _).mono ?_;rintro e w3 ⟨v1,F1,rfl,hx2,hp1,hbn1,hsub1⟩;refine Hid.out ?_)
     refine Lib.hid ?_
     have HOF1:=Lib.hid (fun j (hj:F1 j) => (hsub1 j hj).elim (fun h => h.elim) fun h => (.inr (Nat.le_trans HB.out.m.top h):j < lo ∨ hi ≤ j))
     have HBq:=Lib.hid (HB.out.ext hx2)
     have HP1:=Lib.hid hp1
     have HBN1:=Lib.hid hbn1
     clear hx2 hp1 hbn1 hsub1
     go_wp2_with (go_at_call 18;refine (cap_int HBq.out.m 0 1#64 (by omega) (by rw [HBq.out.mg.n];omega) (Lib.hid HBq.out.mg.e)).mono ?_;rintro e w4 ⟨rfl,hx3⟩;refine Hid.out ?_)
     refine Lib.hid ?_
     have HBr:=Lib.hid (HBq.out.ext hx3)
     replace HP1:=Lib.hid (HP1.out.agr (Agr.of_ext hx3 HBN1.out))
     replace HBN1:=Lib.hid (HBN1.out.ext hx3.size)
     clear hx3
     go_wp2_with (go_at_call 37;refine (runR_at HR1.out r9.e (U r9.v) (Lib.hid rfl) (Lib.hid rfl) 100000 (by have:=HCC.out;omega) (by omega) F1 v1 w4 HP1.out HBN1.out HOF1.out HBr.out.m).mono ?_;rintro e w5 ⟨rfl,hm4,hf4⟩;refine Hid.out ?_)
     refine Lib.hid ?_
     have HEs:=Lib.hid (HBr.out.ran hm4 hf4 HG1.out (by omega))
     clear hm4 hf4 HP1 HBN1 HOF1 HB HBq HBr HR1 x0 x1 x2 x3 x4 x5 x6 x7 xl z0 z1 z2 z3 z4 z5 zl
     go_upto_region 15 with (fail)
     have HE:=Lib.hid (HEs.out.new (.cells #[.int .i64 r9.e,.int .u64 (U r9.v)] 94))
     clear HEs
     generalize w5.alloc (.cells #[.int .i64 r9.e,.int .u64 (U r9.v)] 94) = wx at HE ⊢
     generalize w5.heap.size = r1 at HE ⊢
     have hz_b:=HE.out.at (b:=bo) (o:=.cells #[.int .i64 q.code,.int .i64 q.d,.int .i64 q.f,.int .u64 (U q.h),.int .u64 (U q.a),.int .u64 (U q.b)] 89) (by simp)
     have z0:=cell_at (o:=0) hz_b rfl
     have z1:=cell_at (o:=1) hz_b rfl
     have z2:=cell_at (o:=2) hz_b rfl
     have z3:=cell_at (o:=3) hz_b rfl
     have z4:=cell_at (o:=4) hz_b rfl
     have z5:=cell_at (o:=5) hz_b rfl
     have zl:=heap_lt hz_b
     clear hz_b
     have hy_b:=HE.out.at (b:=r1) (o:=.cells #[.int .i64 r9.e,.int .u64 (U r9.v)] 94) (by simp)
     have y0:=cell_at (o:=0) hy_b rfl
     have y1:=cell_at (o:=1) hy_b rfl
     have yl:=heap_lt hy_b
     clear hy_b
     by_cases hcd:q.code = 1
     ·by_cases hce:r9.e = 0
      ·have dcd:(q.code == 1) = true:=beq_iff_eq.2 hcd
       have dce:(r9.e == 0) = true:=beq_iff_eq.2 hce
       have hml9:gr.length ≤ 2000000:=by have:=hD.out.2.1;omega
       have HE2:=Lib.hid (HE.out.sub (cs:=[(bs,.cells #[.int .i64 p.n,.int .i64 p.t,.int .i64 p.r,.int .i64 p.d,.int .i64 p.b,.int .i64 p.g,.int .i64 0,.int .i64 th] 82),(bp,.cells #[.int .i64 p.n,.int .i64 p.t,.int .i64 p.r,.int .i64 p.d,.int .i64 p.b,.int .i64 p.g] 23)]) (fun x hx => List.mem_cons_of_mem _ (List.mem_cons_of_mem _ hx)))
       have hbs8:=HE.out.sz
       clear HE hcd hce
       go_wp2_with (at_builtin;go_loud (refine wpList_urow rfl (.tmp 92) (.tmp 95) rfl base _ gr rfl (HE2.out.u.ext (ext_alloc _ (ext_refl wx))) ⟨wx.heap.size,0,none⟩ r9.v rfl (newy _ _ _ _ rfl) hml9 (by simp;omega) ?_);intro v6 wz hv6 hg6 hn6;refine Hid.out ?_)
       refine Lib.hid ?_
       have HX:=Lib.hid ((HE2.out.ext (ext_alloc _ (ext_refl wx))).grow hv6 hg6 hn6)
       obtain ⟨va6,vc6,rfl⟩ : ∃ a c,v6 = .slice a (gr.length+1) c:=by
        obtain ⟨a,c,e⟩:=hv6.slice
        exact ⟨a,c,by rw [e,List.length_append];rfl⟩
       clear HE2 hv6 hg6 hn6 hml9 hbs8 dcd dce y0 y1 yl z0 z1 z2 z3 z4 z5 zl
       have HS3:Hid (ClzRel p th lo hi L w base bp bs (.slice va6 (gr.length+1) vc6) (gr ++ [r9.v]) M1 (.int .i64 0) wz):=Lib.hid ⟨0,rfl,by omega,HX.out⟩
       clear HX
       go_wp2
       go_loopw [13] (fun vj wr => ClzRel p th lo hi L w base bp bs (.slice va6 (gr.length+1) vc6) (gr ++ [r9.v]) M1 vj wr) (fun vj _ => (3 - intOf vj).toNat)
       case atStart => exact HS3.out
       case round =>
        clear HS3
        obtain ⟨j,rfl,hj,hS3⟩:=hrel
        have HZ:=Lib.hid hS3
        clear hS3
        by_cases hjl:(j:Int) < 3
        ·obtain ⟨g0,g1,g2⟩:=hz_peek HP.out hth0.1 hth0.2 HJ.out.1 (j:=(j:Int)) (by omega) hjl
         have HPK:=Lib.hid (And.intro g0 (And.intro g1 g2))
         have hu0:U (0#64) = 0:=U_0
         clear g0 g1 g2
         have hx_b:=HZ.out.at (b:=bs) (o:=.cells #[.int .i64 p.n,.int .i64 p.t,.int .i64 p.r,.int .i64 p.d,.int .i64 p.b,.int .i64 p.g,.int .i64 0,.int .i64 th] 82) (by simp)
         have x0:=cell_at (o:=0) hx_b rfl
         have x1:=cell_at (o:=1) hx_b rfl
         have x2:=cell_at (o:=2) hx_b rfl
         have x3:=cell_at (o:=3) hx_b rfl
         have x4:=cell_at (o:=4) hx_b rfl
         have x5:=cell_at (o:=5) hx_b rfl
         have x6:=cell_at (o:=6) hx_b rfl
         have x7:=cell_at (o:=7) hx_b rfl
         have xl:=heap_lt hx_b
         clear hx_b
         have hz_b:=HZ.out.at (b:=bp) (o:=.cells #[.int .i64 p.n,.int .i64 p.t,.int .i64 p.r,.int .i64 p.d,.int .i64 p.b,.int .i64 p.g] 23) (by simp)
         have z0:=cell_at (o:=0) hz_b rfl
         have z1:=cell_at (o:=1) hz_b rfl
         have z2:=cell_at (o:=2) hz_b rfl
         have z3:=cell_at (o:=3) hz_b rfl
         have z4:=cell_at (o:=4) hz_b rfl
         have z5:=cell_at (o:=5) hz_b rfl
         have zl:=heap_lt hz_b
         clear hz_b
         go_wp2_with (first
          | (go_at_call 54;refine (hazard_any p th (j:Int) _).mono ?_;rintro e wq ⟨rfl,hx9⟩;have HZ1:=Lib.hid (HZ.out.ext hx9);clear hx9)
          | (go_at_call 20;refine (peek_int HZ1.out.m 0 (p.hazF th (j:Int)) 0 (by omega) (by rw [HZ1.out.mg.n];omega) HPK.out.1 HPK.out.2.1 (Lib.hid (by rw [HPK.out.2.2];exact U_0))).mono ?_;rintro e wq2 ⟨rfl,hx9⟩;have HZ2:=Lib.hid (HZ1.out.ext hx9);clear hx9))
         exact ⟨⟨j+1,by go_num,by omega,HZ2.out⟩,by simp [intOf];omega⟩
        ·have hjd:¬ (j:Int) < 3:=hjl
         go_wp2
         exact ⟨⟨k+1,M1,S2,T1,(gr ++ [r9.v]),by go_num,by omega,HZ.out,Lib.hid ⟨HJ.out.1,by have:=hD.out.2.1;rw [List.length_append];simp;omega,by have:=HJ.out.2;have:=hD.out.2.2;omega⟩⟩,by simp [intOf];omega⟩
      ·have dcd:(q.code == 1) = true:=beq_iff_eq.2 hcd
       have dce:(r9.e == 0) = false:=beq_eq_false_iff_ne.2 hce
       clear hcd hce
       have HX:=Lib.hid (HE.out.sub (cs:=[(bs,.cells #[.int .i64 p.n,.int .i64 p.t,.int .i64 p.r,.int .i64 p.d,.int .i64 p.b,.int .i64 p.g,.int .i64 0,.int .i64 th] 82),(bp,.cells #[.int .i64 p.n,.int .i64 p.t,.int .i64 p.r,.int .i64 p.d,.int .i64 p.b,.int .i64 p.g] 23)]) (fun x hx => List.mem_cons_of_mem _ (List.mem_cons_of_mem _ hx)))
       clear HE
       go_upto_region 17 with (fail)
       clear dcd dce y0 y1 yl z0 z1 z2 z3 z4 z5 zl
       generalize wx = wz at HX ⊢
       have HS3:Hid (ClzRel p th lo hi L w base bp bs (.slice va gr.length vcap) gr M1 (.int .i64 0) wz):=Lib.hid ⟨0,rfl,by omega,HX.out⟩
       clear HX
       go_wp2
       go_loopw [13] (fun vj wr => ClzRel p th lo hi L w base bp bs (.slice va gr.length vcap) gr M1 vj wr) (fun vj _ => (3 - intOf vj).toNat)
       case atStart => exact HS3.out
       case round =>
        clear HS3
        obtain ⟨j,rfl,hj,hS3⟩:=hrel
        have HZ:=Lib.hid hS3
        clear hS3
        by_cases hjl:(j:Int) < 3
        ·obtain ⟨g0,g1,g2⟩:=hz_peek HP.out hth0.1 hth0.2 HJ.out.1 (j:=(j:Int)) (by omega) hjl
         have HPK:=Lib.hid (And.intro g0 (And.intro g1 g2))
         have hu0:U (0#64) = 0:=U_0
         clear g0 g1 g2
         have hx_b:=HZ.out.at (b:=bs) (o:=.cells #[.int .i64 p.n,.int .i64 p.t,.int .i64 p.r,.int .i64 p.d,.int .i64 p.b,.int .i64 p.g,.int .i64 0,.int .i64 th] 82) (by simp)
         have x0:=cell_at (o:=0) hx_b rfl
         have x1:=cell_at (o:=1) hx_b rfl
         have x2:=cell_at (o:=2) hx_b rfl
         have x3:=cell_at (o:=3) hx_b rfl
         have x4:=cell_at (o:=4) hx_b rfl
         have x5:=cell_at (o:=5) hx_b rfl
         have x6:=cell_at (o:=6) hx_b rfl
         have x7:=cell_at (o:=7) hx_b rfl
         have xl:=heap_lt hx_b
         clear hx_b
         have hz_b:=HZ.out.at (b:=bp) (o:=.cells #[.int .i64 p.n,.int .i64 p.t,.int .i64 p.r,.int .i64 p.d,.int .i64 p.b,.int .i64 p.g] 23) (by simp)
         have z0:=cell_at (o:=0) hz_b rfl
         have z1:=cell_at (o:=1) hz_b rfl
         have z2:=cell_at (o:=2) hz_b rfl
         have z3:=cell_at (o:=3) hz_b rfl
         have z4:=cell_at (o:=4) hz_b rfl
         have z5:=cell_at (o:=5) hz_b rfl
         have zl:=heap_lt hz_b
         clear hz_b
         go_wp2_with (first
          | (go_at_call 54;refine (hazard_any p th (j:Int) _).mono ?_;rintro e wq ⟨rfl,hx9⟩;have HZ1:=Lib.hid (HZ.out.ext hx9);clear hx9)
          | (go_at_call 20;refine (peek_int HZ1.out.m 0 (p.hazF th (j:Int)) 0 (by omega) (by rw [HZ1.out.mg.n];omega) HPK.out.1 HPK.out.2.1 (Lib.hid (by rw [HPK.out.2.2];exact U_0))).mono ?_;rintro e wq2 ⟨rfl,hx9⟩;have HZ2:=Lib.hid (HZ1.out.ext hx9);clear hx9))
         exact ⟨⟨j+1,by go_num,by omega,HZ2.out⟩,by simp [intOf];omega⟩
        ·have hjd:¬ (j:Int) < 3:=hjl
         go_wp2
         exact ⟨⟨k+1,M1,S2,T1,gr,by go_num,by omega,HZ.out,Lib.hid ⟨HJ.out.1,by have:=hD.out.2.1;omega,by have:=HJ.out.2;have:=hD.out.2.2;omega⟩⟩,by simp [intOf];omega⟩
     ·have dcd:(q.code == 1) = false:=beq_eq_false_iff_ne.2 hcd
      clear hcd
      have HX:=Lib.hid (HE.out.sub (cs:=[(bs,.cells #[.int .i64 p.n,.int .i64 p.t,.int .i64 p.r,.int .i64 p.d,.int .i64 p.b,.int .i64 p.g,.int .i64 0,.int .i64 th] 82),(bp,.cells #[.int .i64 p.n,.int .i64 p.t,.int .i64 p.r,.int .i64 p.d,.int .i64 p.b,.int .i64 p.g] 23)]) (fun x hx => List.mem_cons_of_mem _ (List.mem_cons_of_mem _ hx)))
      clear HE
      go_upto_region 17 with (fail)
      clear dcd y0 y1 yl z0 z1 z2 z3 z4 z5 zl
      generalize wx = wz at HX ⊢
      have HS3:Hid (ClzRel p th lo hi L w base bp bs (.slice va gr.length vcap) gr M1 (.int .i64 0) wz):=Lib.hid ⟨0,rfl,by omega,HX.out⟩
      clear HX
      go_wp2
      go_loopw [13] (fun vj wr => ClzRel p th lo hi L w base bp bs (.slice va gr.length vcap) gr M1 vj wr) (fun vj _ => (3 - intOf vj).toNat)
      case atStart => exact HS3.out
      case round =>
       clear HS3
       obtain ⟨j,rfl,hj,hS3⟩:=hrel
       have HZ:=Lib.hid hS3
       clear hS3
       by_cases hjl:(j:Int) < 3
       ·obtain ⟨g0,g1,g2⟩:=hz_peek HP.out hth0.1 hth0.2 HJ.out.1 (j:=(j:Int)) (by omega) hjl
        have HPK:=Lib.hid (And.intro g0 (And.intro g1 g2))
        have hu0:U (0#64) = 0:=U_0
        clear g0 g1 g2
        have hx_b:=HZ.out.at (b:=bs) (o:=.cells #[.int .i64 p.n,.int .i64 p.t,.int .i64 p.r,.int .i64 p.d,.int .i64 p.b,.int .i64 p.g,.int .i64 0,.int .i64 th] 82) (by simp)
        have x0:=cell_at (o:=0) hx_b rfl
        have x1:=cell_at (o:=1) hx_b rfl
        have x2:=cell_at (o:=2) hx_b rfl
        have x3:=cell_at (o:=3) hx_b rfl
        have x4:=cell_at (o:=4) hx_b rfl
        have x5:=cell_at (o:=5) hx_b rfl
        have x6:=cell_at (o:=6) hx_b rfl
        have x7:=cell_at (o:=7) hx_b rfl
        have xl:=heap_lt hx_b
        clear hx_b
        have hz_b:=HZ.out.at (b:=bp) (o:=.cells #[.int .i64 p.n,.int .i64 p.t,.int .i64 p.r,.int .i64 p.d,.int .i64 p.b,.int .i64 p.g] 23) (by simp)
        have z0:=cell_at (o:=0) hz_b rfl
        have z1:=cell_at (o:=1) hz_b rfl
        have z2:=cell_at (o:=2) hz_b rfl
        have z3:=cell_at (o:=3) hz_b rfl
        have z4:=cell_at (o:=4) hz_b rfl
        have z5:=cell_at (o:=5) hz_b rfl
        have zl:=heap_lt hz_b
        clear hz_b
        go_wp2_with (first
         | (go_at_call 54;refine (hazard_any p th (j:Int) _).mono ?_;rintro e wq ⟨rfl,hx9⟩;have HZ1:=Lib.hid (HZ.out.ext hx9);clear hx9)
         | (go_at_call 20;refine (peek_int HZ1.out.m 0 (p.hazF th (j:Int)) 0 (by omega) (by rw [HZ1.out.mg.n];omega) HPK.out.1 HPK.out.2.1 (Lib.hid (by rw [HPK.out.2.2];exact U_0))).mono ?_;rintro e wq2 ⟨rfl,hx9⟩;have HZ2:=Lib.hid (HZ1.out.ext hx9);clear hx9))
        exact ⟨⟨j+1,by go_num,by omega,HZ2.out⟩,by simp [intOf];omega⟩
       ·have hjd:¬ (j:Int) < 3:=hjl
        go_wp2
        exact ⟨⟨k+1,M1,S2,T1,gr,by go_num,by omega,HZ.out,Lib.hid ⟨HJ.out.1,by have:=hD.out.2.1;omega,by have:=HJ.out.2;have:=hD.out.2.2;omega⟩⟩,by simp [intOf];omega⟩
    ·have ho0d:decide (q.of ≥ 0) = false:=decide_eq_false (by omega)
     clear hof hof2
     go_upto_region 14 with (fail)
     clear d6 ewo ho0d ho0
     have hbs9:=HB.out.sz
     obtain ⟨M1,c1,T1,r1,hc1,hT1,j1,_⟩:=hD.out.1.op_run HP.out hth0.1 hth0.2 (by have:=hD.out.2.2;omega) (tn:=0) (by omega) q.code q.f q.h q.a q.b
     obtain ⟨S2,hS2⟩ : ∃ z,(S.op p 0 q.code q.f q.h q.a q.b).1 = z:=⟨_,rfl⟩
     obtain ⟨r9,hr9⟩ : ∃ z,(S.op p 0 q.code q.f q.h q.a q.b).2 = z:=⟨_,rfl⟩
     rw [hS2] at j1
     rw [hr9] at r1
     have HR1:=Lib.hid r1
     have HG1:=Lib.hid j1.a.fl.mg
     have HJ:=Lib.hid (And.intro j1 hT1)
     have HCC:=Lib.hid hc1
     clear r1 j1 hT1 hc1 hS2 hr9
     have hx_b:=HB.out.at (b:=bs) (o:=.cells #[.int .i64 p.n,.int .i64 p.t,.int .i64 p.r,.int .i64 p.d,.int .i64 p.b,.int .i64 p.g,.int .i64 0,.int .i64 th] 82) (by simp)
     have x0:=cell_at (o:=0) hx_b rfl
     have x1:=cell_at (o:=1) hx_b rfl
     have x2:=cell_at (o:=2) hx_b rfl
     have x3:=cell_at (o:=3) hx_b rfl
     have x4:=cell_at (o:=4) hx_b rfl
     have x5:=cell_at (o:=5) hx_b rfl
     have x6:=cell_at (o:=6) hx_b rfl
     have x7:=cell_at (o:=7) hx_b rfl
     have xl:=heap_lt hx_b
     clear hx_b
     have hz_b:=HB.out.at (b:=bo) (o:=.cells #[.int .i64 q.code,.int .i64 q.d,.int .i64 q.f,.int .u64 (U q.h),.int .u64 (U q.a),.int .u64 (U q.b)] 89) (by simp)
     have z0:=cell_at (o:=0) hz_b rfl
     have z1:=cell_at (o:=1) hz_b rfl
     have z2:=cell_at (o:=2) hz_b rfl
     have z3:=cell_at (o:=3) hz_b rfl
     have z4:=cell_at (o:=4) hz_b rfl
     have z5:=cell_at (o:=5) hz_b rfl
     have zl:=heap_lt hz_b
     clear hz_b
     go_wp2_with (go_at_call 38;refine (made_PT ⟨p,0,th⟩ q.code q.d q.f q.h q.a q.b _).mono ?_;rintro e w3 ⟨v1,F1,rfl,hx2,hp1,hbn1,hsub1⟩;refine Hid.out ?_)
     refine Lib.hid ?_
     have HOF1:=Lib.hid (fun j (hj:F1 j) => (hsub1 j hj).elim (fun h => h.elim) fun h => (.inr (Nat.le_trans HB.out.m.top h):j < lo ∨ hi ≤ j))
     have HBq:=Lib.hid (HB.out.ext hx2)
     have HP1:=Lib.hid hp1
     have HBN1:=Lib.hid hbn1
     clear hx2 hp1 hbn1 hsub1
     go_wp2_with (go_at_call 18;refine (cap_int HBq.out.m 0 1#64 (by omega) (by rw [HBq.out.mg.n];omega) (Lib.hid HBq.out.mg.e)).mono ?_;rintro e w4 ⟨rfl,hx3⟩;refine Hid.out ?_)
     refine Lib.hid ?_
     have HBr:=Lib.hid (HBq.out.ext hx3)
     replace HP1:=Lib.hid (HP1.out.agr (Agr.of_ext hx3 HBN1.out))
     replace HBN1:=Lib.hid (HBN1.out.ext hx3.size)
     clear hx3
     go_wp2_with (go_at_call 37;refine (runR_at HR1.out r9.e (U r9.v) (Lib.hid rfl) (Lib.hid rfl) 100000 (by have:=HCC.out;omega) (by omega) F1 v1 w4 HP1.out HBN1.out HOF1.out HBr.out.m).mono ?_;rintro e w5 ⟨rfl,hm4,hf4⟩;refine Hid.out ?_)
     refine Lib.hid ?_
     have HEs:=Lib.hid (HBr.out.ran hm4 hf4 HG1.out (by omega))
     clear hm4 hf4 HP1 HBN1 HOF1 HB HBq HBr HR1 x0 x1 x2 x3 x4 x5 x6 x7 xl z0 z1 z2 z3 z4 z5 zl
     go_upto_region 15 with (fail)
     have HE:=Lib.hid (HEs.out.new (.cells #[.int .i64 r9.e,.int .u64 (U r9.v)] 94))
     clear HEs
     generalize w5.alloc (.cells #[.int .i64 r9.e,.int .u64 (U r9.v)] 94) = wx at HE ⊢
     generalize w5.heap.size = r1 at HE ⊢
     have hz_b:=HE.out.at (b:=bo) (o:=.cells #[.int .i64 q.code,.int .i64 q.d,.int .i64 q.f,.int .u64 (U q.h),.int .u64 (U q.a),.int .u64 (U q.b)] 89) (by simp)
     have z0:=cell_at (o:=0) hz_b rfl
     have z1:=cell_at (o:=1) hz_b rfl
     have z2:=cell_at (o:=2) hz_b rfl
     have z3:=cell_at (o:=3) hz_b rfl
     have z4:=cell_at (o:=4) hz_b rfl
     have z5:=cell_at (o:=5) hz_b rfl
     have zl:=heap_lt hz_b
     clear hz_b
     have hy_b:=HE.out.at (b:=r1) (o:=.cells #[.int .i64 r9.e,.int .u64 (U r9.v)] 94) (by simp)
     have y0:=cell_at (o:=0) hy_b rfl
     have y1:=cell_at (o:=1) hy_b rfl
     have yl:=heap_lt hy_b
     clear hy_b
     by_cases hcd:q.code = 1
     ·by_cases hce:r9.e = 0
      ·have dcd:(q.code == 1) = true:=beq_iff_eq.2 hcd
       have dce:(r9.e == 0) = true:=beq_iff_eq.2 hce
       have hml9:gr.length ≤ 2000000:=by have:=hD.out.2.1;omega
       have HE2:=Lib.hid (HE.out.sub (cs:=[(bs,.cells #[.int .i64 p.n,.int .i64 p.t,.int .i64 p.r,.int .i64 p.d,.int .i64 p.b,.int .i64 p.g,.int .i64 0,.int .i64 th] 82),(bp,.cells #[.int .i64 p.n,.int .i64 p.t,.int .i64 p.r,.int .i64 p.d,.int .i64 p.b,.int .i64 p.g] 23)]) (fun x hx => List.mem_cons_of_mem _ (List.mem_cons_of_mem _ hx)))
       have hbs8:=HE.out.sz
       clear HE hcd hce
       go_wp2_with (at_builtin;go_loud (refine wpList_urow rfl (.tmp 92) (.tmp 95) rfl base _ gr rfl (HE2.out.u.ext (ext_alloc _ (ext_refl wx))) ⟨wx.heap.size,0,none⟩ r9.v rfl (newy _ _ _ _ rfl) hml9 (by simp;omega) ?_);intro v6 wz hv6 hg6 hn6;refine Hid.out ?_)
       refine Lib.hid ?_
       have HX:=Lib.hid ((HE2.out.ext (ext_alloc _ (ext_refl wx))).grow hv6 hg6 hn6)
       obtain ⟨va6,vc6,rfl⟩ : ∃ a c,v6 = .slice a (gr.length+1) c:=by
        obtain ⟨a,c,e⟩:=hv6.slice
        exact ⟨a,c,by rw [e,List.length_append];rfl⟩
       clear HE2 hv6 hg6 hn6 hml9 hbs8 dcd dce y0 y1 yl z0 z1 z2 z3 z4 z5 zl
       have HS3:Hid (ClzRel p th lo hi L w base bp bs (.slice va6 (gr.length+1) vc6) (gr ++ [r9.v]) M1 (.int .i64 0) wz):=Lib.hid ⟨0,rfl,by omega,HX.out⟩
       clear HX
       go_wp2
       go_loopw [13] (fun vj wr => ClzRel p th lo hi L w base bp bs (.slice va6 (gr.length+1) vc6) (gr ++ [r9.v]) M1 vj wr) (fun vj _ => (3 - intOf vj).toNat)
       case atStart => exact HS3.out
       case round =>
        clear HS3
        obtain ⟨j,rfl,hj,hS3⟩:=hrel
        have HZ:=Lib.hid hS3
        clear hS3
        by_cases hjl:(j:Int) < 3
        ·obtain ⟨g0,g1,g2⟩:=hz_peek HP.out hth0.1 hth0.2 HJ.out.1 (j:=(j:Int)) (by omega) hjl
         have HPK:=Lib.hid (And.intro g0 (And.intro g1 g2))
         have hu0:U (0#64) = 0:=U_0
         clear g0 g1 g2
         have hx_b:=HZ.out.at (b:=bs) (o:=.cells #[.int .i64 p.n,.int .i64 p.t,.int .i64 p.r,.int .i64 p.d,.int .i64 p.b,.int .i64 p.g,.int .i64 0,.int .i64 th] 82) (by simp)
         have x0:=cell_at (o:=0) hx_b rfl
         have x1:=cell_at (o:=1) hx_b rfl
         have x2:=cell_at (o:=2) hx_b rfl
         have x3:=cell_at (o:=3) hx_b rfl
         have x4:=cell_at (o:=4) hx_b rfl
         have x5:=cell_at (o:=5) hx_b rfl
         have x6:=cell_at (o:=6) hx_b rfl
         have x7:=cell_at (o:=7) hx_b rfl
         have xl:=heap_lt hx_b
         clear hx_b
         have hz_b:=HZ.out.at (b:=bp) (o:=.cells #[.int .i64 p.n,.int .i64 p.t,.int .i64 p.r,.int .i64 p.d,.int .i64 p.b,.int .i64 p.g] 23) (by simp)
         have z0:=cell_at (o:=0) hz_b rfl
         have z1:=cell_at (o:=1) hz_b rfl
         have z2:=cell_at (o:=2) hz_b rfl
         have z3:=cell_at (o:=3) hz_b rfl
         have z4:=cell_at (o:=4) hz_b rfl
         have z5:=cell_at (o:=5) hz_b rfl
         have zl:=heap_lt hz_b
         clear hz_b
         go_wp2_with (first
          | (go_at_call 54;refine (hazard_any p th (j:Int) _).mono ?_;rintro e wq ⟨rfl,hx9⟩;have HZ1:=Lib.hid (HZ.out.ext hx9);clear hx9)
          | (go_at_call 20;refine (peek_int HZ1.out.m 0 (p.hazF th (j:Int)) 0 (by omega) (by rw [HZ1.out.mg.n];omega) HPK.out.1 HPK.out.2.1 (Lib.hid (by rw [HPK.out.2.2];exact U_0))).mono ?_;rintro e wq2 ⟨rfl,hx9⟩;have HZ2:=Lib.hid (HZ1.out.ext hx9);clear hx9))
         exact ⟨⟨j+1,by go_num,by omega,HZ2.out⟩,by simp [intOf];omega⟩
        ·have hjd:¬ (j:Int) < 3:=hjl
         go_wp2
         exact ⟨⟨k+1,M1,S2,T1,(gr ++ [r9.v]),by go_num,by omega,HZ.out,Lib.hid ⟨HJ.out.1,by have:=hD.out.2.1;rw [List.length_append];simp;omega,by have:=HJ.out.2;have:=hD.out.2.2;omega⟩⟩,by simp [intOf];omega⟩
      ·have dcd:(q.code == 1) = true:=beq_iff_eq.2 hcd
       have dce:(r9.e == 0) = false:=beq_eq_false_iff_ne.2 hce
       clear hcd hce
       have HX:=Lib.hid (HE.out.sub (cs:=[(bs,.cells #[.int .i64 p.n,.int .i64 p.t,.int .i64 p.r,.int .i64 p.d,.int .i64 p.b,.int .i64 p.g,.int .i64 0,.int .i64 th] 82),(bp,.cells #[.int .i64 p.n,.int .i64 p.t,.int .i64 p.r,.int .i64 p.d,.int .i64 p.b,.int .i64 p.g] 23)]) (fun x hx => List.mem_cons_of_mem _ (List.mem_cons_of_mem _ hx)))
       clear HE
       go_upto_region 17 with (fail)
       clear dcd dce y0 y1 yl z0 z1 z2 z3 z4 z5 zl
       generalize wx = wz at HX ⊢
       have HS3:Hid (ClzRel p th lo hi L w base bp bs (.slice va gr.length vcap) gr M1 (.int .i64 0) wz):=Lib.hid ⟨0,rfl,by omega,HX.out⟩
       clear HX
       go_wp2
       go_loopw [13] (fun vj wr => ClzRel p th lo hi L w base bp bs (.slice va gr.length vcap) gr M1 vj wr) (fun vj _ => (3 - intOf vj).toNat)
       case atStart => exact HS3.out
       case round =>
        clear HS3
        obtain ⟨j,rfl,hj,hS3⟩:=hrel
        have HZ:=Lib.hid hS3
        clear hS3
        by_cases hjl:(j:Int) < 3
        ·obtain ⟨g0,g1,g2⟩:=hz_peek HP.out hth0.1 hth0.2 HJ.out.1 (j:=(j:Int)) (by omega) hjl
         have HPK:=Lib.hid (And.intro g0 (And.intro g1 g2))
         have hu0:U (0#64) = 0:=U_0
         clear g0 g1 g2
         have hx_b:=HZ.out.at (b:=bs) (o:=.cells #[.int .i64 p.n,.int .i64 p.t,.int .i64 p.r,.int .i64 p.d,.int .i64 p.b,.int .i64 p.g,.int .i64 0,.int .i64 th] 82) (by simp)
         have x0:=cell_at (o:=0) hx_b rfl
         have x1:=cell_at (o:=1) hx_b rfl
         have x2:=cell_at (o:=2) hx_b rfl
         have x3:=cell_at (o:=3) hx_b rfl
         have x4:=cell_at (o:=4) hx_b rfl
         have x5:=cell_at (o:=5) hx_b rfl
         have x6:=cell_at (o:=6) hx_b rfl
         have x7:=cell_at (o:=7) hx_b rfl
         have xl:=heap_lt hx_b
         clear hx_b
         have hz_b:=HZ.out.at (b:=bp) (o:=.cells #[.int .i64 p.n,.int .i64 p.t,.int .i64 p.r,.int .i64 p.d,.int .i64 p.b,.int .i64 p.g] 23) (by simp)
         have z0:=cell_at (o:=0) hz_b rfl
         have z1:=cell_at (o:=1) hz_b rfl
         have z2:=cell_at (o:=2) hz_b rfl
         have z3:=cell_at (o:=3) hz_b rfl
         have z4:=cell_at (o:=4) hz_b rfl
         have z5:=cell_at (o:=5) hz_b rfl
         have zl:=heap_lt hz_b
         clear hz_b
         go_wp2_with (first
          | (go_at_call 54;refine (hazard_any p th (j:Int) _).mono ?_;rintro e wq ⟨rfl,hx9⟩;have HZ1:=Lib.hid (HZ.out.ext hx9);clear hx9)
          | (go_at_call 20;refine (peek_int HZ1.out.m 0 (p.hazF th (j:Int)) 0 (by omega) (by rw [HZ1.out.mg.n];omega) HPK.out.1 HPK.out.2.1 (Lib.hid (by rw [HPK.out.2.2];exact U_0))).mono ?_;rintro e wq2 ⟨rfl,hx9⟩;have HZ2:=Lib.hid (HZ1.out.ext hx9);clear hx9))
         exact ⟨⟨j+1,by go_num,by omega,HZ2.out⟩,by simp [intOf];omega⟩
        ·have hjd:¬ (j:Int) < 3:=hjl
         go_wp2
         exact ⟨⟨k+1,M1,S2,T1,gr,by go_num,by omega,HZ.out,Lib.hid ⟨HJ.out.1,by have:=hD.out.2.1;omega,by have:=HJ.out.2;have:=hD.out.2.2;omega⟩⟩,by simp [intOf];omega⟩
     ·have dcd:(q.code == 1) = false:=beq_eq_false_iff_ne.2 hcd
      clear hcd
      have HX:=Lib.hid (HE.out.sub (cs:=[(bs,.cells #[.int .i64 p.n,.int .i64 p.t,.int .i64 p.r,.int .i64 p.d,.int .i64 p.b,.int .i64 p.g,.int .i64 0,.int .i64 th] 82),(bp,.cells #[.int .i64 p.n,.int .i64 p.t,.int .i64 p.r,.int .i64 p.d,.int .i64 p.b,.int .i64 p.g] 23)]) (fun x hx => List.mem_cons_of_mem _ (List.mem_cons_of_mem _ hx)))
      clear HE
      go_upto_region 17 with (fail)
      clear dcd y0 y1 yl z0 z1 z2 z3 z4 z5 zl
      generalize wx = wz at HX ⊢
      have HS3:Hid (ClzRel p th lo hi L w base bp bs (.slice va gr.length vcap) gr M1 (.int .i64 0) wz):=Lib.hid ⟨0,rfl,by omega,HX.out⟩
      clear HX
      go_wp2
      go_loopw [13] (fun vj wr => ClzRel p th lo hi L w base bp bs (.slice va gr.length vcap) gr M1 vj wr) (fun vj _ => (3 - intOf vj).toNat)
      case atStart => exact HS3.out
      case round =>
       clear HS3
       obtain ⟨j,rfl,hj,hS3⟩:=hrel
       have HZ:=Lib.hid hS3
       clear hS3
       by_cases hjl:(j:Int) < 3
       ·obtain ⟨g0,g1,g2⟩:=hz_peek HP.out hth0.1 hth0.2 HJ.out.1 (j:=(j:Int)) (by omega) hjl
        have HPK:=Lib.hid (And.intro g0 (And.intro g1 g2))
        have hu0:U (0#64) = 0:=U_0
        clear g0 g1 g2
        have hx_b:=HZ.out.at (b:=bs) (o:=.cells #[.int .i64 p.n,.int .i64 p.t,.int .i64 p.r,.int .i64 p.d,.int .i64 p.b,.int .i64 p.g,.int .i64 0,.int .i64 th] 82) (by simp)
        have x0:=cell_at (o:=0) hx_b rfl
        have x1:=cell_at (o:=1) hx_b rfl
        have x2:=cell_at (o:=2) hx_b rfl
        have x3:=cell_at (o:=3) hx_b rfl
        have x4:=cell_at (o:=4) hx_b rfl
        have x5:=cell_at (o:=5) hx_b rfl
        have x6:=cell_at (o:=6) hx_b rfl
        have x7:=cell_at (o:=7) hx_b rfl
        have xl:=heap_lt hx_b
        clear hx_b
        have hz_b:=HZ.out.at (b:=bp) (o:=.cells #[.int .i64 p.n,.int .i64 p.t,.int .i64 p.r,.int .i64 p.d,.int .i64 p.b,.int .i64 p.g] 23) (by simp)
        have z0:=cell_at (o:=0) hz_b rfl
        have z1:=cell_at (o:=1) hz_b rfl
        have z2:=cell_at (o:=2) hz_b rfl
        have z3:=cell_at (o:=3) hz_b rfl
        have z4:=cell_at (o:=4) hz_b rfl
        have z5:=cell_at (o:=5) hz_b rfl
        have zl:=heap_lt hz_b
        clear hz_b
        go_wp2_with (first
         | (go_at_call 54;refine (hazard_any p th (j:Int) _).mono ?_;rintro e wq ⟨rfl,hx9⟩;have HZ1:=Lib.hid (HZ.out.ext hx9);clear hx9)
         | (go_at_call 20;refine (peek_int HZ1.out.m 0 (p.hazF th (j:Int)) 0 (by omega) (by rw [HZ1.out.mg.n];omega) HPK.out.1 HPK.out.2.1 (Lib.hid (by rw [HPK.out.2.2];exact U_0))).mono ?_;rintro e wq2 ⟨rfl,hx9⟩;have HZ2:=Lib.hid (HZ1.out.ext hx9);clear hx9))
        exact ⟨⟨j+1,by go_num,by omega,HZ2.out⟩,by simp [intOf];omega⟩
       ·have hjd:¬ (j:Int) < 3:=hjl
        go_wp2
        exact ⟨⟨k+1,M1,S2,T1,gr,by go_num,by omega,HZ.out,Lib.hid ⟨HJ.out.1,by have:=hD.out.2.1;omega,by have:=HJ.out.2;have:=hD.out.2.2;omega⟩⟩,by simp [intOf];omega⟩
  ·go_wp2
   go_ret
   exact Ret.mk HR.out.ex
end Go.Proofs.YthjklbonebnekaaGreat

