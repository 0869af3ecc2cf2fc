/-
  The law CheckFresh, walked. Conditions: those of each theorem.
-/
import Derived.Test.YthjklbonebnekaaGreatGbw
set_option maxRecDepth 8000
set_option maxHeartbeats 4000000
namespace Go.Proofs.YthjklbonebnekaaGreat
open Go Go.RowKit
def FrRel (p:Pl) (lo hi:Nat) (L:Lay) (w:World) (base bp bs:Nat) (tt:Int) (vh vi:Value) (wr:World):Prop:=∃ (k:Nat) (M:MS) (S:S1) (T:Nat) (had:List (BitVec 64)),vi = .int .i64 (k:Int) ∧ (k:Int) ≤ tt ∧
 CFs p lo hi L w base vh had [(bs,.cells #[.int .i64 p.n,.int .i64 p.t,.int .i64 p.r,.int .i64 p.d,.int .i64 p.b,.int .i64 p.g,.int .i64 0,.int .i64 0] 82),(bp,.cells #[.int .i64 p.n,.int .i64 p.t,.int .i64 p.r,.int .i64 p.d,.int .i64 p.b,.int .i64 p.g] 23)] M wr ∧ Hid (J1 p 0 M S T ∧ Fd p S had (-1) ∧ had.length = k ∧ T ≤ 2400 * k)
def FqRel (W:World) (n:Nat) (vj:Value) (wr:World):Prop:=∃ j:Nat,vj = .int .i64 (j:Int) ∧ j ≤ n ∧ ∃ s,wr = over W s
def FfRel (p:Pl) (lo hi:Nat) (L:Lay) (w:World) (base bp bs:Nat) (vh:Value) (had:List (BitVec 64)) (r1:Nat) (x:BitVec 64) (n:Int) (S:S1) (T:Nat) (vf:Value) (wr:World):Prop:=∃ (f:Nat) (M:MS) (fv:Int → Int → BitVec 64),vf = .int .i64 (f:Int) ∧ f ≤ 3 ∧
 CFs p lo hi L w base vh had ((r1,.cells #[.int .i64 0,.int .u64 (U x)] 94) :: [(bs,.cells #[.int .i64 p.n,.int .i64 p.t,.int .i64 p.r,.int .i64 p.d,.int .i64 p.b,.int .i64 p.g,.int .i64 0,.int .i64 0] 82),(bp,.cells #[.int .i64 p.n,.int .i64 p.t,.int .i64 p.r,.int .i64 p.d,.int .i64 p.b,.int .i64 p.g] 23)]) M wr ∧ Hid (J1 p 0 M ⟨S.fs,S.rt,S.sf,fv⟩ T ∧ ∀ o:Int,(f:Int) ≤ o → o < 3 → fv n o = 0#64)
theorem cfr_nofew (p:Pl) (turns:Int) (v:BitVec 64) (hf:¬ (p.few ∧ p.ok)) (w:World):Calls Tryz.prog 7 #[plV p,.int .u8 turns,.int .u64 (U v)] w (Ret (.bool true) w):=by
 have HFP:=Lib.hid hf
 clear hf
 go_enter Tryz.func7,Tryz.ntmps7
 go_wp2_with (first
  | (go_at_call 33;refine (r13wake_any _).mono ?_;rintro e w' hr;obtain ⟨rfl,sA,rfl⟩:=hr.over;clear hr)
  | (go_at_call 34;refine (r13few_any p _ false (hid_no HFP.out)).mono ?_;rintro e w' hr;obtain ⟨rfl,sA,rfl⟩:=hr.over;clear hr))
 go_ret
 exact Ret.mk (by repeat (first | exact ext_refl _ | apply ext_over | apply ext_alloc))
theorem cfr_yes (p:Pl) (hf:p.few ∧ p.ok) (turns:Int) (ht0:0 ≤ turns) (_:turns < 256) (v:BitVec 64) (w:World):Calls Tryz.prog 7 #[plV p,.int .u8 turns,.int .u64 (U v)] w (Ret (.bool true) w):=by
 have HFP:=Lib.hid hf
 have HP:=Lib.hid hf.2
 have hpn:1 ≤ p.n ∧ p.n ≤ 40:=⟨hf.2.1.1,(hf.1 hf.2).1⟩
 have hpt:0 < p.t:=by have:=hf.2.2.1;omega
 have hLd:∀ W,Calls Tryz.prog 14 #[plV p] W (RetLaidZ p W):=fun W => laidZ_any p HP.out W
 replace hLd:=Lib.hid hLd
 obtain ⟨tt,htt⟩ : ∃ tt:Int,Hid (Int.tmod turns 40 = tt):=⟨_,Lib.hid rfl⟩
 have htr:0 ≤ tt ∧ tt < 40:=by
  have h1:=htt.out
  rw [Int.tmod_eq_emod_of_nonneg ht0] at h1
  omega
 clear hf
 go_enter Tryz.func7,Tryz.ntmps7
 go_wp2_with (first
  | (go_at_call 33;refine (r13wake_any _).mono ?_;rintro e w' hr;obtain ⟨rfl,sA,rfl⟩:=hr.over;clear hr)
  | (go_at_call 34;refine (r13few_any p _ true (hid_yes HFP.out)).mono ?_;rintro e w' hr;obtain ⟨rfl,sB,rfl⟩:=hr.over;clear hr)
  | (go_at_call 14;refine Hid.out ?_))
 refine Lib.hid ?_
 have hE0:Ext w (over (w.alloc (.cells #[.int .i64 p.n,.int .i64 p.t,.int .i64 p.r,.int .i64 p.d,.int .i64 p.b,.int .i64 p.g] 23)) (sA.comp sB)):=by repeat (first | exact ext_refl _ | apply ext_over | apply ext_alloc)
 have hb0:(over (w.alloc (.cells #[.int .i64 p.n,.int .i64 p.t,.int .i64 p.r,.int .i64 p.d,.int .i64 p.b,.int .i64 p.g] 23)) (sA.comp sB)).heap[w.heap.size]? = some (.cells #[.int .i64 p.n,.int .i64 p.t,.int .i64 p.r,.int .i64 p.d,.int .i64 p.b,.int .i64 p.g] 23):=((over_below _ (sA.comp sB)).block _ (by simp)).trans (heap_at w _ _ rfl)
 generalize over (w.alloc (.cells #[.int .i64 p.n,.int .i64 p.t,.int .i64 p.r,.int .i64 p.d,.int .i64 p.b,.int .i64 p.g] 23)) (sA.comp sB) = W at hE0 hb0 ⊢
 have hlW:=heap_lt hb0
 refine (hLd.out _).mono ?_
 rintro e w1 ⟨lo,hi,L,M,rfl,hM,hF,hx,hlo⟩
 have hxs:Ext W w1:=ext_trans (ext_alloc _ (ext_refl W)) hx
 have hb1:=(hxs.block _ hlW).trans hb0
 have hb2:w1.heap[W.heap.size]? = some (.cells #[.int .i64 p.n,.int .i64 p.t,.int .i64 p.r,.int .i64 p.d,.int .i64 p.b,.int .i64 p.g,.int .i64 0,.int .i64 0] 82):=(hx.block _ (by simp)).trans (heap_at W _ _ rfl)
 have hlo2:W.heap.size < lo:=Nat.lt_of_lt_of_le (by simp) hlo
 have hww:w.heap.size ≤ lo:=by omega
 have hhi:=hM.top
 have HI0:CFs p lo hi L w w1.heap.size (.slice none 0 0) [] [(W.heap.size,.cells #[.int .i64 p.n,.int .i64 p.t,.int .i64 p.r,.int .i64 p.d,.int .i64 p.b,.int .i64 p.g,.int .i64 0,.int .i64 0] 82),(w.heap.size,.cells #[.int .i64 p.n,.int .i64 p.t,.int .i64 p.r,.int .i64 p.d,.int .i64 p.b,.int .i64 p.g] 23)] M w1:=CFs.begin (((CBs.of hM hF.1.mg (ext_trans hE0 hxs)).add (b:=w.heap.size) (o:=.cells #[.int .i64 p.n,.int .i64 p.t,.int .i64 p.r,.int .i64 p.d,.int .i64 p.b,.int .i64 p.g] 23) (.inl (by omega)) (Nat.le_refl _) hb1).add (b:=W.heap.size) (o:=.cells #[.int .i64 p.n,.int .i64 p.t,.int .i64 p.r,.int .i64 p.d,.int .i64 p.b,.int .i64 p.g,.int .i64 0,.int .i64 0] 82) (.inl hlo2) hE0.size hb2)
 have hJ0:=J1.fresh HP.out hF.1 hF.2 0
 have hFd0:Fd p (S1.zero p.n.toNat) [] (-1):=⟨fun x hx => by simp at hx,fun n hn _ => ⟨by simp [S1.zero],fun h => by simp [S1.zero] at h⟩⟩
 obtain ⟨bp,hbp⟩ : ∃ b,Hid (w.heap.size = b):=⟨_,Lib.hid rfl⟩
 rw [hbp.out] at HI0 ⊢
 have HS:Hid (FrRel p lo hi L w w1.heap.size bp W.heap.size tt (.slice none 0 0) (.int .i64 0) w1):=Lib.hid ⟨0,M,_,0,[],rfl,htr.1,HI0,Lib.hid ⟨hJ0,hFd0,rfl,by omega⟩⟩
 have hbW:w1.heap.size = w1.heap.size:=rfl
 obtain ⟨base,hbase⟩ : ∃ b,Hid (w1.heap.size = b):=⟨_,Lib.hid rfl⟩
 rw [hbase.out] at HS
 clear hM hF hx hxs hb1 hb2 hlo hlo2 hE0 hb0 hLd HI0 hJ0 hFd0 hbW hbp hlW
 generalize W.heap.size = bs at HS ⊢
 go_wp2
 go_loopw [9,10] (fun vh vi wr => FrRel p lo hi L w base bp bs tt vh vi wr) (fun _ vi _ => (tt - intOf vi).toNat)
 case atStart => exact HS.out
 case round =>
  clear HS
  obtain ⟨k,M,S,T,had,rfl,hk,hS,hD⟩:=hrel
  have HR:=Lib.hid hS
  have hhb:=hS.hb
  obtain ⟨va,vcap,rfl⟩:=hS.u.slice
  obtain rfl:had.length = k:=hD.out.2.2.1
  clear hS
  have ett:=htt.out
  have ewt:wrap64 tt = tt:=by unfold wrap64;omega
  by_cases hlt:(had.length:Int) < tt
  ·have hTk:T ≤ 2400 * had.length:=hD.out.2.2.2
   have hk40:had.length < 40:=by omega
   obtain ⟨M1,c1,T1,r1,hc1,hT1,j1⟩:=hD.out.1.new1 HP.out (by omega) hpt (by omega)
   have HJ:=Lib.hid j1
   have hG1:=Lib.hid j1.a.fl.mg
   rcases hD.out.2.1.grant HP.out (by omega) hpt hD.out.1 j1 with ⟨eg,hq⟩ | ⟨n,g,hn,hg0,hg1,eg,hko,hne,hsf,hfz,hFd⟩
   ·rw [eg] at r1
    have HR1:=Lib.hid r1
    have hkn:p.n ≤ (had.length:Int):=by omega
    have hkd:decide ((had.length:Int) ≥ p.n) = true:=decide_eq_true hkn
    have HC9:=Lib.hid hc1
    clear r1 j1 hc1 hT1 HJ hkn hq hTk
    have hx_b:=HR.out.at (b:=bs) (o:=.cells #[.int .i64 p.n,.int .i64 p.t,.int .i64 p.r,.int .i64 p.d,.int .i64 p.b,.int .i64 p.g,.int .i64 0,.int .i64 0] 82) (by simp)
    have x0:=cell_at (o:=0) hx_b rfl
    have x1:=cell_at (o:=1) hx_b rfl
    have x2:=cell_at (o:=2) hx_b rfl
    have x3:=cell_at (o:=3) hx_b rfl
    have x4:=cell_at (o:=4) hx_b rfl
    have x5:=cell_at (o:=5) hx_b rfl
    have x6:=cell_at (o:=6) hx_b rfl
    have x7:=cell_at (o:=7) hx_b rfl
    have xl:=heap_lt hx_b
    clear hx_b
    go_wp2_with (go_at_call 48;refine (cnew_PT ⟨p,0,0⟩ 2 _).mono ?_;rintro e w3 ⟨v1,F1,rfl,hx2,hp1,hbn1,hsub1⟩;refine Hid.out ?_)
    refine Lib.hid ?_
    have HOF1:=Lib.hid (fun j (hj:F1 j) => (hsub1 j hj).elim (fun h => h.elim) fun h => (.inr (Nat.le_trans HR.out.m.top h):j < lo ∨ hi ≤ j))
    have HRq:=Lib.hid (HR.out.ext hx2)
    have HP1:=Lib.hid hp1
    have HBN1:=Lib.hid hbn1
    clear hx2 hp1 hbn1 hsub1
    go_wp2_with (go_at_call 18;refine (cap_int HRq.out.m 0 1#64 (by omega) (by rw [HRq.out.mg.n];omega) (Lib.hid HRq.out.mg.e)).mono ?_;rintro e w4 ⟨rfl,hx3⟩;refine Hid.out ?_)
    refine Lib.hid ?_
    have HRr:=Lib.hid (HRq.out.ext hx3)
    replace HP1:=Lib.hid (HP1.out.agr (Agr.of_ext hx3 HBN1.out))
    replace HBN1:=Lib.hid (HBN1.out.ext hx3.size)
    clear hx3
    go_wp2_with (go_at_call 37;refine (runR_at HR1.out 4 0 (Lib.hid rfl) (Lib.hid U_0) 100000 (by have:=HC9.out;omega) (by omega) F1 v1 w4 HP1.out HBN1.out HOF1.out HRr.out.m).mono ?_;rintro e w5 ⟨rfl,hm4,hf4⟩;refine Hid.out ?_)
    refine Lib.hid ?_
    have HAs:=Lib.hid (HRr.out.ran hm4 hf4 hG1.out (by omega))
    clear hm4 hf4 HP1 HBN1 HOF1 HR HRq HRr HR1 x0 x1 x2 x3 x4 x5 x6 x7 xl
    go_upto_region 12 with (fail)
    have HA:=Lib.hid (HAs.out.new (.cells #[.int .i64 4,.int .u64 0] 94))
    clear HAs
    generalize w5.alloc (.cells #[.int .i64 4,.int .u64 0] 94) = wx at HA ⊢
    generalize w5.heap.size = r1 at HA ⊢
    have hy_b:=HA.out.at (b:=r1) (o:=.cells #[.int .i64 4,.int .u64 0] 94) (by simp)
    have y0:=cell_at (o:=0) hy_b rfl
    have y1:=cell_at (o:=1) hy_b rfl
    have yl:=heap_lt hy_b
    clear hy_b
    have hq_b:=HA.out.at (b:=bp) (o:=.cells #[.int .i64 p.n,.int .i64 p.t,.int .i64 p.r,.int .i64 p.d,.int .i64 p.b,.int .i64 p.g] 23) (by simp)
    have q0:=cell_at (o:=0) hq_b rfl
    have q1:=cell_at (o:=1) hq_b rfl
    have q2:=cell_at (o:=2) hq_b rfl
    have q3:=cell_at (o:=3) hq_b rfl
    have q4:=cell_at (o:=4) hq_b rfl
    have q5:=cell_at (o:=5) hq_b rfl
    have ql:=heap_lt hq_b
    clear hq_b
    go_wp2
    go_ret
    exact Ret.mk HA.out.ex
   ·obtain ⟨x,hx⟩ : ∃ x,Hn.word ⟨n,g,0⟩ = x:=⟨_,rfl⟩
    rw [eg,hx] at r1
    rw [hx] at hne
    have HNX:=Lib.hid hx
    have HR1:=Lib.hid r1
    have HNE:=Lib.hid hne
    have HLV:=Lib.hid (And.intro hn (And.intro hko (And.intro hsf (And.intro hfz (And.intro hFd (And.intro hg0 hg1))))))
    have HTT:=Lib.hid (And.intro hT1 hTk)
    have HCC:=Lib.hid hc1
    clear r1 j1 hc1 hT1 hTk hne hx hn hko hsf hfz hFd hg0 hg1 eg
    have hx_b:=HR.out.at (b:=bs) (o:=.cells #[.int .i64 p.n,.int .i64 p.t,.int .i64 p.r,.int .i64 p.d,.int .i64 p.b,.int .i64 p.g,.int .i64 0,.int .i64 0] 82) (by simp)
    have x0:=cell_at (o:=0) hx_b rfl
    have x1:=cell_at (o:=1) hx_b rfl
    have x2:=cell_at (o:=2) hx_b rfl
    have x3:=cell_at (o:=3) hx_b rfl
    have x4:=cell_at (o:=4) hx_b rfl
    have x5:=cell_at (o:=5) hx_b rfl
    have x6:=cell_at (o:=6) hx_b rfl
    have x7:=cell_at (o:=7) hx_b rfl
    have xl:=heap_lt hx_b
    clear hx_b
    go_wp2_with (go_at_call 48;refine (cnew_PT ⟨p,0,0⟩ 2 _).mono ?_;rintro e w3 ⟨v1,F1,rfl,hx2,hp1,hbn1,hsub1⟩;refine Hid.out ?_)
    refine Lib.hid ?_
    have HOF1:=Lib.hid (fun j (hj:F1 j) => (hsub1 j hj).elim (fun h => h.elim) fun h => (.inr (Nat.le_trans HR.out.m.top h):j < lo ∨ hi ≤ j))
    have HRq:=Lib.hid (HR.out.ext hx2)
    have HP1:=Lib.hid hp1
    have HBN1:=Lib.hid hbn1
    clear hx2 hp1 hbn1 hsub1
    go_wp2_with (go_at_call 18;refine (cap_int HRq.out.m 0 1#64 (by omega) (by rw [HRq.out.mg.n];omega) (Lib.hid HRq.out.mg.e)).mono ?_;rintro e w4 ⟨rfl,hx3⟩;refine Hid.out ?_)
    refine Lib.hid ?_
    have HRr:=Lib.hid (HRq.out.ext hx3)
    replace HP1:=Lib.hid (HP1.out.agr (Agr.of_ext hx3 HBN1.out))
    replace HBN1:=Lib.hid (HBN1.out.ext hx3.size)
    clear hx3
    go_wp2_with (go_at_call 37;refine (runR_at HR1.out 0 (U x) (Lib.hid rfl) (Lib.hid rfl) 100000 (by have:=HCC.out;omega) (by omega) F1 v1 w4 HP1.out HBN1.out HOF1.out HRr.out.m).mono ?_;rintro e w5 ⟨rfl,hm4,hf4⟩;refine Hid.out ?_)
    refine Lib.hid ?_
    have HAs:=Lib.hid (HRr.out.ran hm4 hf4 hG1.out (by omega))
    clear hm4 hf4 HP1 HBN1 HOF1 HR HRq HRr HR1 x0 x1 x2 x3 x4 x5 x6 x7 xl
    go_upto_region 12 with (fail)
    have HA:=Lib.hid (HAs.out.new (.cells #[.int .i64 0,.int .u64 (U x)] 94))
    clear HAs
    generalize w5.alloc (.cells #[.int .i64 0,.int .u64 (U x)] 94) = wx at HA ⊢
    generalize w5.heap.size = r1 at HA ⊢
    have hy_b:=HA.out.at (b:=r1) (o:=.cells #[.int .i64 0,.int .u64 (U x)] 94) (by simp)
    have y0:=cell_at (o:=0) hy_b rfl
    have y1:=cell_at (o:=1) hy_b rfl
    have yl:=heap_lt hy_b
    clear hy_b
    have HS2:Hid (FqRel wx had.length (.int .i64 0) wx):=Lib.hid ⟨0,rfl,Nat.zero_le _,over_of (ext_refl wx)⟩
    obtain ⟨S2,hS2⟩ : ∃ q,(S.grant p 0).1 = q:=⟨_,rfl⟩
    rw [hS2] at HJ HLV
    clear hS2
    go_wp2
    clear y0 y1 yl
    go_loopw [14] (fun vj wr => FqRel wx had.length vj wr) (fun vj _ => ((had.length:Int) - intOf vj).toNat)
    case atStart => exact HS2.out
    case round =>
     clear HS2
     obtain ⟨j,rfl,hj,s,rfl⟩:=hrel
     have HA2:=Lib.hid (HA.out.ext (ext_over s (ext_refl wx)))
     have hy_b:=HA2.out.at (b:=r1) (o:=.cells #[.int .i64 0,.int .u64 (U x)] 94) (by simp)
     have y0:=cell_at (o:=0) hy_b rfl
     have y1:=cell_at (o:=1) hy_b rfl
     have yl:=heap_lt hy_b
     clear hy_b
     by_cases hjl:j < had.length
     ·have HXX:=Lib.hid (ext_over s (ext_refl wx))
      obtain ⟨b,off,e1,hbl,hc⟩:=HA2.out.u.is.at (by omega)
      subst e1
      have d1:=hc j hjl
      have hjl2:(j:Int) < had.length:=by omega
      have hqn:(U (uN had j) == U x) = false:=beq_eq_false_iff_ne.2 fun e => HNE.out (uN had j) (by unfold uN;rw [List.getD_eq_getElem?_getD,List.getElem?_eq_getElem hjl];exact List.getElem_mem hjl) (U_inj e)
      obtain ⟨q,hqq⟩ : ∃ q,U (uN had j) = q:=⟨_,rfl⟩
      rw [hqq] at d1 hqn
      clear hc hqq HA HA2 HJ HLV HTT HNE
      generalize over wx s = wy at HXX d1 hbl y0 y1 yl ⊢
      go_wp2
      first | refine wp_region_over2 (by kernel_rfl) (by kernel_rfl) ?_ | refine wp_region_over (by kernel_rfl) (by kernel_rfl) ?_
      repeat (go_big_quiet_step (fail))
      refine wpQuiet_nil ?_
      intro _ hw'
      obtain ⟨s1,hw''⟩:=hw'
      subst hw''
      go_wp2
      exact ⟨⟨j+1,by go_num,by omega,over_of (ext_over s1 HXX.out)⟩,by simp [intOf];omega⟩
     ·have hjl2:¬ (j:Int) < had.length:=by omega
      clear HA
      generalize over wx s = wy at HA2 y0 y1 yl ⊢
      have hml:had.length ≤ 2000000:=by omega
      have hbs:=HA2.out.sz
      go_wp2_with (at_builtin;go_loud (refine wpList_urow rfl (.tmp 87) (.tmp 90) rfl base _ had rfl (HA2.out.u.ext (ext_alloc _ (ext_refl wy))) ⟨wy.heap.size,0,none⟩ x rfl (newy _ _ _ _ rfl) hml (by simp;omega) ?_);intro v6 w6 hv6 hg6 hn6;refine Hid.out ?_)
      refine Lib.hid ?_
      have HB:=Lib.hid ((HA2.out.ext (ext_alloc _ (ext_refl wy))).grow hv6 hg6 hn6)
      obtain ⟨va6,vc6,rfl⟩ : ∃ a c,v6 = .slice a (had.length+1) c:=by
       obtain ⟨a,c,e⟩:=hv6.slice
       exact ⟨a,c,by rw [e,List.length_append];rfl⟩
      have HFS:Hid (FfRel p lo hi L w base bp bs (.slice va6 (had.length+1) vc6) (had ++ [x]) r1 x n S2 T1 (.int .i64 0) w6):=Lib.hid ⟨0,M1,S2.fv,rfl,by omega,HB.out,Lib.hid ⟨HJ.out,fun o a b => HLV.out.2.2.2.1 o (by omega) b⟩⟩
      clear HA2 hv6 hg6 hn6 HB y0 y1 yl hml hbs
      go_wp2
      go_loopw [15] (fun vf wr => FfRel p lo hi L w base bp bs (.slice va6 (had.length+1) vc6) (had ++ [x]) r1 x n S2 T1 vf wr) (fun vf _ => (3 - intOf vf).toNat)
      case atStart => exact HFS.out
      case round =>
       clear HFS
       obtain ⟨f,M2,fv,rfl,hf3,hS3,hD3⟩:=hrel
       have HF:=Lib.hid hS3
       clear hS3
       by_cases hfl:(f:Int) < 3
       ·obtain ⟨Ma,ra,ja⟩:=hD3.out.1.read1 HP.out (by omega) hpt HLV.out.2.1 HNX.out HLV.out.1 HLV.out.2.2.1 (f:=(f:Int)) (by omega) (by omega)
        dsimp only at ra
        rw [hD3.out.2 f (Int.le_refl _) hfl] at ra
        obtain ⟨Mb,rb,jb⟩:=ja.write1 HP.out (by omega) hpt HLV.out.2.1 HNX.out HLV.out.1 HLV.out.2.2.1 (f:=(f:Int)) (by omega) (by omega) v
        obtain ⟨Mc,rc,jc⟩:=jb.read1 HP.out (by omega) hpt HLV.out.2.1 HNX.out HLV.out.1 HLV.out.2.2.1 (f:=(f:Int)) (by omega) (by omega)
        dsimp only at rb jb rc jc
        rw [upF2_same] at rc
        have HRa:=Lib.hid ra
        have HRb:=Lib.hid rb
        have HRc:=Lib.hid rc
        have HGs:=Lib.hid (And.intro ja.a.fl.mg (And.intro jb.a.fl.mg jc.a.fl.mg))
        have HJc:=Lib.hid jc
        clear ra ja rb jb rc jc
        have hx_b:=HF.out.at (b:=bs) (o:=.cells #[.int .i64 p.n,.int .i64 p.t,.int .i64 p.r,.int .i64 p.d,.int .i64 p.b,.int .i64 p.g,.int .i64 0,.int .i64 0] 82) (by simp)
        have x0:=cell_at (o:=0) hx_b rfl
        have x1:=cell_at (o:=1) hx_b rfl
        have x2:=cell_at (o:=2) hx_b rfl
        have x3:=cell_at (o:=3) hx_b rfl
        have x4:=cell_at (o:=4) hx_b rfl
        have x5:=cell_at (o:=5) hx_b rfl
        have x6:=cell_at (o:=6) hx_b rfl
        have x7:=cell_at (o:=7) hx_b rfl
        have xl:=heap_lt hx_b
        clear hx_b
        have hy_b:=HF.out.at (b:=r1) (o:=.cells #[.int .i64 0,.int .u64 (U x)] 94) (by simp)
        have y0:=cell_at (o:=0) hy_b rfl
        have y1:=cell_at (o:=1) hy_b rfl
        have yl:=heap_lt hy_b
        clear hy_b
        go_wp2_with (go_at_call 49;refine (cread_PT ⟨p,0,0⟩ x (f:Int) _).mono ?_;rintro e w3 ⟨v1,F1,rfl,hx2,hp1,hbn1,hsub1⟩;refine Hid.out ?_)
        refine Lib.hid ?_
        have HOF1:=Lib.hid (fun j (hj:F1 j) => (hsub1 j hj).elim (fun h => h.elim) fun h => (.inr (Nat.le_trans HF.out.m.top h):j < lo ∨ hi ≤ j))
        have HFq:=Lib.hid (HF.out.ext hx2)
        have HP1:=Lib.hid hp1
        have HBN1:=Lib.hid hbn1
        clear hx2 hp1 hbn1 hsub1
        go_wp2_with (go_at_call 18;refine (cap_int HFq.out.m 0 1#64 (by omega) (by rw [HFq.out.mg.n];omega) (Lib.hid HFq.out.mg.e)).mono ?_;rintro e w4 ⟨rfl,hx3⟩;refine Hid.out ?_)
        refine Lib.hid ?_
        have HFr:=Lib.hid (HFq.out.ext hx3)
        replace HP1:=Lib.hid (HP1.out.agr (Agr.of_ext hx3 HBN1.out))
        replace HBN1:=Lib.hid (HBN1.out.ext hx3.size)
        clear hx3
        go_wp2_with (go_at_call 37;refine (runR_at HRa.out 0 0 (Lib.hid rfl) (Lib.hid U_0) 99 (by omega) (by omega) F1 v1 w4 HP1.out HBN1.out HOF1.out HFr.out.m).mono ?_;rintro e w5 ⟨rfl,hm4,hf4⟩;refine Hid.out ?_)
        refine Lib.hid ?_
        have HG1s:=Lib.hid (HFr.out.ran hm4 hf4 HGs.out.1 (by omega))
        clear hm4 hf4 HP1 HBN1 HOF1 HF HFq HFr HRa x0 x1 x2 x3 x4 x5 x6 x7 xl y0 y1 yl
        go_upto_region 24 with (fail)
        have HG1:=Lib.hid (HG1s.out.new (.cells #[.int .i64 0,.int .u64 0] 94))
        clear HG1s
        generalize w5.alloc (.cells #[.int .i64 0,.int .u64 0] 94) = wx at HG1 ⊢
        generalize w5.heap.size = rx at HG1 ⊢
        have hx_b:=HG1.out.at (b:=bs) (o:=.cells #[.int .i64 p.n,.int .i64 p.t,.int .i64 p.r,.int .i64 p.d,.int .i64 p.b,.int .i64 p.g,.int .i64 0,.int .i64 0] 82) (by simp)
        have x0:=cell_at (o:=0) hx_b rfl
        have x1:=cell_at (o:=1) hx_b rfl
        have x2:=cell_at (o:=2) hx_b rfl
        have x3:=cell_at (o:=3) hx_b rfl
        have x4:=cell_at (o:=4) hx_b rfl
        have x5:=cell_at (o:=5) hx_b rfl
        have x6:=cell_at (o:=6) hx_b rfl
        have x7:=cell_at (o:=7) hx_b rfl
        have xl:=heap_lt hx_b
        clear hx_b
        have hy_b:=HG1.out.at (b:=r1) (o:=.cells #[.int .i64 0,.int .u64 (U x)] 94) (by simp)
        have y0:=cell_at (o:=0) hy_b rfl
        have y1:=cell_at (o:=1) hy_b rfl
        have yl:=heap_lt hy_b
        clear hy_b
        go_wp2_with (go_at_call 50;refine (cwrite_PT ⟨p,0,0⟩ x (f:Int) v _).mono ?_;rintro e w3 ⟨v1,F1,rfl,hx2,hp1,hbn1,hsub1⟩;refine Hid.out ?_)
        refine Lib.hid ?_
        have HOF1:=Lib.hid (fun j (hj:F1 j) => (hsub1 j hj).elim (fun h => h.elim) fun h => (.inr (Nat.le_trans HG1.out.m.top h):j < lo ∨ hi ≤ j))
        have HG1q:=Lib.hid (HG1.out.ext hx2)
        have HP1:=Lib.hid hp1
        have HBN1:=Lib.hid hbn1
        clear hx2 hp1 hbn1 hsub1
        go_wp2_with (go_at_call 18;refine (cap_int HG1q.out.m 0 1#64 (by omega) (by rw [HG1q.out.mg.n];omega) (Lib.hid HG1q.out.mg.e)).mono ?_;rintro e w4 ⟨rfl,hx3⟩;refine Hid.out ?_)
        refine Lib.hid ?_
        have HG1r:=Lib.hid (HG1q.out.ext hx3)
        replace HP1:=Lib.hid (HP1.out.agr (Agr.of_ext hx3 HBN1.out))
        replace HBN1:=Lib.hid (HBN1.out.ext hx3.size)
        clear hx3
        go_wp2_with (go_at_call 37;refine (runR_at HRb.out 0 0 (Lib.hid rfl) (Lib.hid U_0) 99 (by omega) (by omega) F1 v1 w4 HP1.out HBN1.out HOF1.out HG1r.out.m).mono ?_;rintro e w5 ⟨rfl,hm4,hf4⟩;refine Hid.out ?_)
        refine Lib.hid ?_
        have HG2s:=Lib.hid (HG1r.out.ran hm4 hf4 HGs.out.2.1 (by omega))
        clear hm4 hf4 HP1 HBN1 HOF1 HG1 HG1q HG1r HRb x0 x1 x2 x3 x4 x5 x6 x7 xl y0 y1 yl
        go_upto_region 25 with (fail)
        have HG2:=Lib.hid (HG2s.out.new (.cells #[.int .i64 0,.int .u64 0] 94))
        clear HG2s
        generalize w5.alloc (.cells #[.int .i64 0,.int .u64 0] 94) = wx at HG2 ⊢
        generalize w5.heap.size = ry at HG2 ⊢
        have hx_b:=HG2.out.at (b:=bs) (o:=.cells #[.int .i64 p.n,.int .i64 p.t,.int .i64 p.r,.int .i64 p.d,.int .i64 p.b,.int .i64 p.g,.int .i64 0,.int .i64 0] 82) (by simp)
        have x0:=cell_at (o:=0) hx_b rfl
        have x1:=cell_at (o:=1) hx_b rfl
        have x2:=cell_at (o:=2) hx_b rfl
        have x3:=cell_at (o:=3) hx_b rfl
        have x4:=cell_at (o:=4) hx_b rfl
        have x5:=cell_at (o:=5) hx_b rfl
        have x6:=cell_at (o:=6) hx_b rfl
        have x7:=cell_at (o:=7) hx_b rfl
        have xl:=heap_lt hx_b
        clear hx_b
        have hy_b:=HG2.out.at (b:=r1) (o:=.cells #[.int .i64 0,.int .u64 (U x)] 94) (by simp)
        have y0:=cell_at (o:=0) hy_b rfl
        have y1:=cell_at (o:=1) hy_b rfl
        have yl:=heap_lt hy_b
        clear hy_b
        go_wp2_with (go_at_call 49;refine (cread_PT ⟨p,0,0⟩ x (f:Int) _).mono ?_;rintro e w3 ⟨v1,F1,rfl,hx2,hp1,hbn1,hsub1⟩;refine Hid.out ?_)
        refine Lib.hid ?_
        have HOF1:=Lib.hid (fun j (hj:F1 j) => (hsub1 j hj).elim (fun h => h.elim) fun h => (.inr (Nat.le_trans HG2.out.m.top h):j < lo ∨ hi ≤ j))
        have HG2q:=Lib.hid (HG2.out.ext hx2)
        have HP1:=Lib.hid hp1
        have HBN1:=Lib.hid hbn1
        clear hx2 hp1 hbn1 hsub1
        go_wp2_with (go_at_call 18;refine (cap_int HG2q.out.m 0 1#64 (by omega) (by rw [HG2q.out.mg.n];omega) (Lib.hid HG2q.out.mg.e)).mono ?_;rintro e w4 ⟨rfl,hx3⟩;refine Hid.out ?_)
        refine Lib.hid ?_
        have HG2r:=Lib.hid (HG2q.out.ext hx3)
        replace HP1:=Lib.hid (HP1.out.agr (Agr.of_ext hx3 HBN1.out))
        replace HBN1:=Lib.hid (HBN1.out.ext hx3.size)
        clear hx3
        go_wp2_with (go_at_call 37;refine (runR_at HRc.out 0 (U v) (Lib.hid rfl) (Lib.hid rfl) 99 (by omega) (by omega) F1 v1 w4 HP1.out HBN1.out HOF1.out HG2r.out.m).mono ?_;rintro e w5 ⟨rfl,hm4,hf4⟩;refine Hid.out ?_)
        refine Lib.hid ?_
        have HG3s:=Lib.hid (HG2r.out.ran hm4 hf4 HGs.out.2.2 (by omega))
        clear hm4 hf4 HP1 HBN1 HOF1 HG2 HG2q HG2r HRc x0 x1 x2 x3 x4 x5 x6 x7 xl y0 y1 yl
        go_upto_region 26 with (fail)
        have HG3:=Lib.hid (HG3s.out.new (.cells #[.int .i64 0,.int .u64 (U v)] 94))
        clear HG3s
        generalize w5.alloc (.cells #[.int .i64 0,.int .u64 (U v)] 94) = wx at HG3 ⊢
        generalize w5.heap.size = rz at HG3 ⊢
        have hy_b:=HG3.out.at (b:=rx) (o:=.cells #[.int .i64 0,.int .u64 0] 94) (by simp)
        have y0:=cell_at (o:=0) hy_b rfl
        have y1:=cell_at (o:=1) hy_b rfl
        have yl:=heap_lt hy_b
        clear hy_b
        have hq_b:=HG3.out.at (b:=ry) (o:=.cells #[.int .i64 0,.int .u64 0] 94) (by simp)
        have q0:=cell_at (o:=0) hq_b rfl
        have q1:=cell_at (o:=1) hq_b rfl
        have ql:=heap_lt hq_b
        clear hq_b
        have hz_b:=HG3.out.at (b:=rz) (o:=.cells #[.int .i64 0,.int .u64 (U v)] 94) (by simp)
        have z0:=cell_at (o:=0) hz_b rfl
        have z1:=cell_at (o:=1) hz_b rfl
        have zl:=heap_lt hz_b
        clear hz_b
        have hg9:=gdR2
        have e1:∀ y,(binOp .neq 94 (.agg #[.int .i64 0,.int .u64 0]) (.agg #[.int .i64 0,.int .u64 0])).run Tryz.prog y = .ok (.bool false) y:=neR2 _ _ _ _ true (by simp)
        have e2:∀ y,(binOp .neq 94 (.agg #[.int .i64 0,.int .u64 (U v)]) (.agg #[.int .i64 0,.int .u64 (U v)])).run Tryz.prog y = .ok (.bool false) y:=neR2 _ _ _ _ true (by simp)
        have HG4:=Lib.hid (HG3.out.sub (cs:=(r1,.cells #[.int .i64 0,.int .u64 (U x)] 94) :: [(bs,.cells #[.int .i64 p.n,.int .i64 p.t,.int .i64 p.r,.int .i64 p.d,.int .i64 p.b,.int .i64 p.g,.int .i64 0,.int .i64 0] 82),(bp,.cells #[.int .i64 p.n,.int .i64 p.t,.int .i64 p.r,.int .i64 p.d,.int .i64 p.b,.int .i64 p.g] 23)]) (fun x hx => List.mem_cons_of_mem _ (List.mem_cons_of_mem _ (List.mem_cons_of_mem _ hx))))
        clear HG3
        go_wp2
        exact ⟨⟨f+1,Mc,_,by go_num,by omega,HG4.out,Lib.hid ⟨HJc.out,fun o a b => (upF2_other (by omega)).trans (hD3.out.2 o (by omega) b)⟩⟩,by simp [intOf];omega⟩
       ·obtain rfl:f = 3:=by omega
        obtain ⟨Md,cd,Td,rd,hcd,hTd,jd⟩:=hD3.out.1.drop1 HP.out (by omega) hpt (by have:=HTT.out;omega) HLV.out.2.1 HNX.out HLV.out.1 HLV.out.2.2.1
        have hFdz:Fd p ⟨S2.fs,S2.rt,S2.sf,fv⟩ had n:=⟨HLV.out.2.2.2.2.1.mem,HLV.out.2.2.2.2.1.old⟩
        obtain ⟨hFe,hnb⟩:=Fd.drop HP.out (by omega) hpt HLV.out.2.1 HLV.out.1 hFdz hD3.out.1 HLV.out.2.2.1
        rw [HNX.out] at hFe
        obtain ⟨Me,re,je⟩:=jd.bad1 HP.out (by omega) hpt HLV.out.2.1 HNX.out HLV.out.1 hnb (f:=0) (by omega) (by omega)
        obtain ⟨S3,hS3⟩ : ∃ q,S1.drop p ⟨n,g,0⟩ ⟨S2.fs,S2.rt,S2.sf,fv⟩ = q:=⟨_,rfl⟩
        rw [hS3] at jd hFe je
        have HRd:=Lib.hid rd
        have HRe:=Lib.hid re
        have HGs:=Lib.hid (And.intro jd.a.fl.mg je.a.fl.mg)
        have HJe:=Lib.hid (And.intro je hFe)
        have HCD:=Lib.hid (And.intro hcd hTd)
        clear rd re jd je hFe hcd hTd hFdz hnb hS3 hD3
        have hx_b:=HF.out.at (b:=bs) (o:=.cells #[.int .i64 p.n,.int .i64 p.t,.int .i64 p.r,.int .i64 p.d,.int .i64 p.b,.int .i64 p.g,.int .i64 0,.int .i64 0] 82) (by simp)
        have x0:=cell_at (o:=0) hx_b rfl
        have x1:=cell_at (o:=1) hx_b rfl
        have x2:=cell_at (o:=2) hx_b rfl
        have x3:=cell_at (o:=3) hx_b rfl
        have x4:=cell_at (o:=4) hx_b rfl
        have x5:=cell_at (o:=5) hx_b rfl
        have x6:=cell_at (o:=6) hx_b rfl
        have x7:=cell_at (o:=7) hx_b rfl
        have xl:=heap_lt hx_b
        clear hx_b
        have hy_b:=HF.out.at (b:=r1) (o:=.cells #[.int .i64 0,.int .u64 (U x)] 94) (by simp)
        have y0:=cell_at (o:=0) hy_b rfl
        have y1:=cell_at (o:=1) hy_b rfl
        have yl:=heap_lt hy_b
        clear hy_b
        go_wp2_with (go_at_call 51;refine (drop_PT ⟨p,0,0⟩ x 2 _).mono ?_;rintro e w3 ⟨v1,F1,rfl,hx2,hp1,hbn1,hsub1⟩;refine Hid.out ?_)
        refine Lib.hid ?_
        have HOF1:=Lib.hid (fun j (hj:F1 j) => (hsub1 j hj).elim (fun h => h.elim) fun h => (.inr (Nat.le_trans HF.out.m.top h):j < lo ∨ hi ≤ j))
        have HFq:=Lib.hid (HF.out.ext hx2)
        have HP1:=Lib.hid hp1
        have HBN1:=Lib.hid hbn1
        clear hx2 hp1 hbn1 hsub1
        go_wp2_with (go_at_call 18;refine (cap_int HFq.out.m 0 1#64 (by omega) (by rw [HFq.out.mg.n];omega) (Lib.hid HFq.out.mg.e)).mono ?_;rintro e w4 ⟨rfl,hx3⟩;refine Hid.out ?_)
        refine Lib.hid ?_
        have HFr:=Lib.hid (HFq.out.ext hx3)
        replace HP1:=Lib.hid (HP1.out.agr (Agr.of_ext hx3 HBN1.out))
        replace HBN1:=Lib.hid (HBN1.out.ext hx3.size)
        clear hx3
        go_wp2_with (go_at_call 37;refine (runR_at HRd.out 0 0 (Lib.hid rfl) (Lib.hid U_0) 100000 (by have:=HCD.out.1;omega) (by omega) F1 v1 w4 HP1.out HBN1.out HOF1.out HFr.out.m).mono ?_;rintro e w5 ⟨rfl,hm4,hf4⟩;refine Hid.out ?_)
        refine Lib.hid ?_
        have HG1s:=Lib.hid (HFr.out.ran hm4 hf4 HGs.out.1 (by omega))
        clear hm4 hf4 HP1 HBN1 HOF1 HF HFq HFr HRd x0 x1 x2 x3 x4 x5 x6 x7 xl y0 y1 yl
        go_upto_region 29 with (fail)
        have HG1:=Lib.hid (HG1s.out.new (.cells #[.int .i64 0,.int .u64 0] 94))
        clear HG1s
        generalize w5.alloc (.cells #[.int .i64 0,.int .u64 0] 94) = wx at HG1 ⊢
        generalize w5.heap.size = rx at HG1 ⊢
        have hx_b:=HG1.out.at (b:=bs) (o:=.cells #[.int .i64 p.n,.int .i64 p.t,.int .i64 p.r,.int .i64 p.d,.int .i64 p.b,.int .i64 p.g,.int .i64 0,.int .i64 0] 82) (by simp)
        have x0:=cell_at (o:=0) hx_b rfl
        have x1:=cell_at (o:=1) hx_b rfl
        have x2:=cell_at (o:=2) hx_b rfl
        have x3:=cell_at (o:=3) hx_b rfl
        have x4:=cell_at (o:=4) hx_b rfl
        have x5:=cell_at (o:=5) hx_b rfl
        have x6:=cell_at (o:=6) hx_b rfl
        have x7:=cell_at (o:=7) hx_b rfl
        have xl:=heap_lt hx_b
        clear hx_b
        have hy_b:=HG1.out.at (b:=r1) (o:=.cells #[.int .i64 0,.int .u64 (U x)] 94) (by simp)
        have y0:=cell_at (o:=0) hy_b rfl
        have y1:=cell_at (o:=1) hy_b rfl
        have yl:=heap_lt hy_b
        clear hy_b
        go_wp2_with (go_at_call 49;refine (cread_PT ⟨p,0,0⟩ x 0 _).mono ?_;rintro e w3 ⟨v1,F1,rfl,hx2,hp1,hbn1,hsub1⟩;refine Hid.out ?_)
        refine Lib.hid ?_
        have HOF1:=Lib.hid (fun j (hj:F1 j) => (hsub1 j hj).elim (fun h => h.elim) fun h => (.inr (Nat.le_trans HG1.out.m.top h):j < lo ∨ hi ≤ j))
        have HG1q:=Lib.hid (HG1.out.ext hx2)
        have HP1:=Lib.hid hp1
        have HBN1:=Lib.hid hbn1
        clear hx2 hp1 hbn1 hsub1
        go_wp2_with (go_at_call 18;refine (cap_int HG1q.out.m 0 1#64 (by omega) (by rw [HG1q.out.mg.n];omega) (Lib.hid HG1q.out.mg.e)).mono ?_;rintro e w4 ⟨rfl,hx3⟩;refine Hid.out ?_)
        refine Lib.hid ?_
        have HG1r:=Lib.hid (HG1q.out.ext hx3)
        replace HP1:=Lib.hid (HP1.out.agr (Agr.of_ext hx3 HBN1.out))
        replace HBN1:=Lib.hid (HBN1.out.ext hx3.size)
        clear hx3
        go_wp2_with (go_at_call 37;refine (runR_at HRe.out 3 0 (Lib.hid rfl) (Lib.hid U_0) 99 (by omega) (by omega) F1 v1 w4 HP1.out HBN1.out HOF1.out HG1r.out.m).mono ?_;rintro e w5 ⟨rfl,hm4,hf4⟩;refine Hid.out ?_)
        refine Lib.hid ?_
        have HG2s:=Lib.hid (HG1r.out.ran hm4 hf4 HGs.out.2 (by omega))
        clear hm4 hf4 HP1 HBN1 HOF1 HG1 HG1q HG1r HRe x0 x1 x2 x3 x4 x5 x6 x7 xl y0 y1 yl
        go_upto_region 30 with (fail)
        have HG2:=Lib.hid (HG2s.out.new (.cells #[.int .i64 3,.int .u64 0] 94))
        clear HG2s
        generalize w5.alloc (.cells #[.int .i64 3,.int .u64 0] 94) = wx at HG2 ⊢
        generalize w5.heap.size = ry at HG2 ⊢
        have hy_b:=HG2.out.at (b:=rx) (o:=.cells #[.int .i64 0,.int .u64 0] 94) (by simp)
        have y0:=cell_at (o:=0) hy_b rfl
        have y1:=cell_at (o:=1) hy_b rfl
        have yl:=heap_lt hy_b
        clear hy_b
        have hq_b:=HG2.out.at (b:=ry) (o:=.cells #[.int .i64 3,.int .u64 0] 94) (by simp)
        have q0:=cell_at (o:=0) hq_b rfl
        have q1:=cell_at (o:=1) hq_b rfl
        have ql:=heap_lt hq_b
        clear hq_b
        have hg9:=gdR2
        have e1:∀ y,(binOp .neq 94 (.agg #[.int .i64 0,.int .u64 0]) (.agg #[.int .i64 0,.int .u64 0])).run Tryz.prog y = .ok (.bool false) y:=neR2 _ _ _ _ true (by simp)
        have e2:∀ y,(binOp .neq 94 (.agg #[.int .i64 3,.int .u64 0]) (.agg #[.int .i64 3,.int .u64 0])).run Tryz.prog y = .ok (.bool false) y:=neR2 _ _ _ _ true (by simp)
        have HG4:=Lib.hid (HG2.out.sub (cs:=[(bs,.cells #[.int .i64 p.n,.int .i64 p.t,.int .i64 p.r,.int .i64 p.d,.int .i64 p.b,.int .i64 p.g,.int .i64 0,.int .i64 0] 82),(bp,.cells #[.int .i64 p.n,.int .i64 p.t,.int .i64 p.r,.int .i64 p.d,.int .i64 p.b,.int .i64 p.g] 23)]) (fun x hx => List.mem_cons_of_mem _ (List.mem_cons_of_mem _ (List.mem_cons_of_mem _ hx))))
        clear HG2
        go_wp2
        exact ⟨⟨had.length+1,Me,S3,Td,had ++ [x],by go_num,by omega,HG4.out,Lib.hid ⟨HJe.out.1,HJe.out.2,by rw [List.length_append];rfl,by have:=HTT.out;have:=HCD.out.2;omega⟩⟩,by simp [intOf];omega⟩
  ·go_wp2
   go_ret
   exact Ret.mk HR.out.ex
end Go.Proofs.YthjklbonebnekaaGreat

