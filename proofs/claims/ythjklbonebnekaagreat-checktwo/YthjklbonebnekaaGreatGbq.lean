/-
  The law CheckTwo, walked. Conditions: those of each theorem.
-/
import Derived.Test.YthjklbonebnekaaGreatGaq
import Derived.Test.YthjklbonebnekaaGreatGbp
set_option maxRecDepth 8000
set_option maxHeartbeats 4000000
namespace Go.Proofs.YthjklbonebnekaaGreat
open Go Go.RowKit
abbrev p3c:Pl:=⟨3,2,7,0,1,9⟩
theorem p3cok:p3c.ok:=by unfold Pl.ok;decide
theorem CBs.stored8n {p:Pl} {lo hi:Nat} {L:Lay} {w0:World} {M:MS} {wr:World} {b:Nat} (y0 y1 y2 y3 y4 y5 y6 y7:Value) (h:CBs p lo hi L w0 [] M wr) (hb:hi ≤ b) (h0:w0.heap.size ≤ b):CBs p lo hi L w0 [] M (put8 b y0 y1 y2 y3 y4 y5 y6 y7 wr):=
 ⟨put8_mem _ _ _ _ _ _ _ _ h.m hb,h.mg,put8_ext _ _ _ _ _ _ _ _ h.ex h0,fun _ hx => by simp at hx⟩
theorem lookT_good {s:Se} (hs:s.ok) {x:BitVec 64} {h:Hn} (hx:h.word = x) (hk:h.ok) (ht:h.t = s.tn) (hi:h.i < s.p.n) {fd:Int} (h0:0 ≤ fd) (h1:fd ≤ 2) (d:Int → Tr (BitVec 64)):lookT s x fd d = lkT s.p s.th h (d (s.p.fdF h.i fd)):=by
 have hm:isMine x s.tn s.p.n:=by rw [← hx];exact (isMine_word h hk _ _).2 ⟨ht.symm,hi⟩
 have e:hnN x = h:=by
  have e:=isH_word h hk
  rw [← hx,← ofH_yes _ e.1]
  exact e.2
 unfold lookT
 rw [if_pos ⟨hs,h0,h1⟩,if_pos hm,e]
theorem lookT_bad {s:Se} (hs:s.ok) {x:BitVec 64} (hm:¬ isMine x s.tn s.p.n) {fd:Int} (h0:0 ≤ fd) (h1:fd ≤ 2) (d:Int → Tr (BitVec 64)):lookT s x fd d = badT:=by
 unfold lookT
 rw [if_pos ⟨hs,h0,h1⟩,if_neg hm]
abbrev sa3:Se:=⟨p3c,0,0⟩
abbrev sb3:Se:=⟨p3c,0,1⟩
abbrev sc3:Se:=⟨p3c,1,0⟩
theorem sa3ok:sa3.ok:=⟨p3cok,by decide,by decide,by decide,by decide⟩
theorem sb3ok:sb3.ok:=⟨p3cok,by decide,by decide,by decide,by decide⟩
theorem sc3ok:sc3.ok:=⟨p3cok,by decide,by decide,by decide,by decide⟩
abbrev h3z:Hn:=⟨0,0,0⟩
theorem h3zok:h3z.ok:=by unfold Hn.ok;decide
theorem in3z:InR p3c 0:=⟨by decide,by decide⟩
theorem two_runs {M:MS} (hF:FL p3c M (rfr (Pl.n p3c).toNat 0) 0) (hZ:Zer p3c M) {f:Int} (f0:0 ≤ f) (f1:f ≤ 2) (v u:BitVec 64):∃ M1 M2 M3 M4 M5,
  (Runs (cnewT sa3 2) M 5 M1 ⟨0,h3z.word⟩ ∧ Mg p3c M1) ∧ (Runs (lookT sa3 h3z.word f fun x => wrtT x v) M1 5 M2 ⟨0,0#64⟩ ∧ Mg p3c M2) ∧ (Runs (lookT sb3 h3z.word f getT) M2 5 M3 ⟨0,v⟩ ∧ Mg p3c M3) ∧
  (Runs (lookT sb3 h3z.word f fun x => swpT x v u) M3 5 M4 ⟨0,1#64⟩ ∧ Mg p3c M4) ∧ (Runs (lookT sa3 h3z.word f getT) M4 5 M5 ⟨0,u⟩ ∧ Mg p3c M5) ∧ Runs (lookT sc3 h3z.word f fun x => wrtT x 1#64) M5 0 M5 ⟨3,0#64⟩:=by
 have hA:=NIn.fresh p3cok hF hZ
 have ef:rfr (Pl.n p3c).toNat 0 = [0,1,2]:=rfl
 rw [ef] at hA
 obtain ⟨M1,r1,a1⟩:=newN_take p3cok hA (by omega) (kd:=0) (by omega) 0 0
 have r1':=cnw_run (tn:=0) r1
 rw [if_pos rfl] at r1'
 have e1:cnewT sa3 2 = cnwT p3c 0 0 2:=by unfold cnewT;rw [if_pos sa3ok]
 have hg:0 ≤ h3z.g ∧ h3z.g ≤ 1073741823:=by decide
 have hs:(upS (fun _ => (⟨0,0,0⟩ : St)) 0 (liveF 0 ⟨0,0,0⟩)) h3z.i = ⟨h3z.g,1,0⟩:=upS_same _ _ _
 obtain ⟨M2,r2,a2⟩:=look_goodR p3cok a1 (t:=0) (by decide) (by decide) (hn:=h3z) in3z hg hs rfl (y:=0#64) (d:=wrtT (p3c.fdF 0 f) v) fun M hd' h => wrt_D p3cok h in3z f0 (by omega) v
 obtain ⟨M3,r3,a3⟩:=look_goodR p3cok a2 (t:=1) (by decide) (by decide) (hn:=h3z) in3z hg hs rfl (d:=getT (p3c.fdF 0 f)) fun M hd' h => get_D p3cok h in3z f0 (by omega)
 rw [upF2_same] at r3
 obtain ⟨M4,r4,a4⟩:=look_goodR p3cok a3 (t:=1) (by decide) (by decide) (hn:=h3z) in3z hg hs rfl (d:=swpT (p3c.fdF 0 f) v u) fun M hd' h => swp_D p3cok h in3z f0 (by omega) v u
 rw [upF2_same,if_pos rfl] at r4
 rw [upF2_same,if_pos rfl] at a4
 obtain ⟨M5,r5,a5⟩:=look_goodR p3cok a4 (t:=0) (by decide) (by decide) (hn:=h3z) in3z hg hs rfl (d:=getT (p3c.fdF 0 f)) fun M hd' h => get_D p3cok h in3z f0 (by omega)
 rw [upF2_same] at r5
 have hb:¬ isMine h3z.word sc3.tn sc3.p.n:=fun h => by
  have:=((isMine_word h3z h3zok _ _).1 h).1
  exact absurd this (by decide)
 refine ⟨M1,M2,M3,M4,M5,⟨by rw [e1];exact r1',a1.fl.mg⟩,⟨?_,a2.fl.mg⟩,⟨?_,a3.fl.mg⟩,⟨?_,a4.fl.mg⟩,⟨?_,a5.fl.mg⟩,?_⟩
 ·rw [lookT_good sa3ok rfl h3zok rfl (by decide) f0 f1];exact r2
 ·rw [lookT_good sb3ok rfl h3zok rfl (by decide) f0 f1];exact r3
 ·rw [lookT_good sb3ok rfl h3zok rfl (by decide) f0 f1];exact r4
 ·rw [lookT_good sa3ok rfl h3zok rfl (by decide) f0 f1];exact r5
 ·rw [lookT_bad sc3ok hb f0 f1];exact Runs.done _ _
theorem ctwo_no (f:Int) (v u:BitVec 64) (hf:¬ (0 ≤ f ∧ f ≤ 2)) (w:World):Calls Tryz.prog 9 #[.int .i64 f,.int .u64 (U v),.int .u64 (U u)] w (Ret (.bool true) w):=by
 by_cases h1:0 ≤ f
 ·have h2:decide (2 < f) = true:=decide_eq_true (by omega)
  clear hf
  go_enter Tryz.func9,Tryz.ntmps9
  go_wp2_with (go_at_call 33;refine (r13wake_any _).mono ?_;rintro e w' hr;obtain ⟨rfl,sA,rfl⟩:=hr.over;clear hr)
  go_ret
  exact Ret.mk (by repeat (first | exact ext_refl _ | apply ext_over | apply ext_alloc))
 ·have h2:decide (f < 0) = true:=decide_eq_true (by omega)
  clear hf
  go_enter Tryz.func9,Tryz.ntmps9
  go_wp2_with (go_at_call 33;refine (r13wake_any _).mono ?_;rintro e w' hr;obtain ⟨rfl,sA,rfl⟩:=hr.over;clear hr)
  go_ret
  exact Ret.mk (by repeat (first | exact ext_refl _ | apply ext_over | apply ext_alloc))
theorem ctwo_yes (f:Int) (v u:BitVec 64) (f0:0 ≤ f) (f1:f ≤ 2) (w:World):Calls Tryz.prog 9 #[.int .i64 f,.int .u64 (U v),.int .u64 (U u)] w (Ret (.bool true) w):=by
 have HL:=Lib.hid (fun W:World => laidZ_any p3c p3cok W)
 have h3:decide (2 < f) = false:=decide_eq_false (by omega)
 have h4:decide (f < 0) = false:=decide_eq_false (by omega)
 go_enter Tryz.func9,Tryz.ntmps9
 go_wp2_with (first
  | (go_at_call 33;refine (r13wake_any _).mono ?_;rintro e w' hr;obtain ⟨rfl,sA,rfl⟩:=hr.over;clear hr)
  | (go_at_call 14;refine Hid.out ?_))
 refine Lib.hid ?_
 refine (HL.out _).mono ?_
 rintro e w1 ⟨lo,hi,L,M,rfl,hM,hF,hx,hlo⟩
 have hxw:=over_size w sA
 have hE:Ext w w1:=ext_trans (ext_alloc _ (ext_over sA (ext_refl w))) hx
 have hlo1:(over w sA).heap.size < lo:=Nat.lt_of_lt_of_le (by simp) hlo
 have hb0:w1.heap[(over w sA).heap.size]? = some (.cells #[.int .i64 3,.int .i64 2,.int .i64 7,.int .i64 0,.int .i64 1,.int .i64 9] 23):=(hx.block _ (by simp)).trans (heap_at _ _ _ rfl)
 obtain ⟨M1,M2,M3,M4,M5,⟨q1,g1⟩,⟨q2,g2⟩,⟨q3,g3⟩,⟨q4,g4⟩,⟨q5,g5⟩,q6⟩:=two_runs hF.1 hF.2 f0 f1 v u
 have HI:=Lib.hid ((CBs.of hM hF.1.mg hE).add (b:=(over w sA).heap.size) (o:=.cells #[.int .i64 3,.int .i64 2,.int .i64 7,.int .i64 0,.int .i64 1,.int .i64 9] 23) (.inl hlo1) hxw hb0)
 have hhi:=hM.top
 have hww:w.heap.size ≤ lo:=by omega
 obtain ⟨p,hp⟩ : ∃ q,Hid (p3c = q):=⟨_,Lib.hid rfl⟩
 obtain ⟨x,hx9⟩ : ∃ x,h3z.word = x:=⟨_,rfl⟩
 rw [hx9] at q1 q2 q3 q4 q5 q6
 have HQ1:=Lib.hid q1
 have HQ2:=Lib.hid q2
 have HQ3:=Lib.hid q3
 have HQ4:=Lib.hid q4
 have HQ5:=Lib.hid q5
 have HQ6:=Lib.hid q6
 have HG:=Lib.hid (And.intro g1 (And.intro g2 (And.intro g3 (And.intro g4 g5))))
 have HU1:Hid (U (1#64) = 1):=Lib.hid (U_of _ _ (by decide))
 clear hM hF hx hlo hb0 hE HL q1 q2 q3 q4 q5 q6 g1 g2 g3 g4 g5 hx9 hp
 generalize (over w sA).heap.size = bp at HI hlo1 hxw ⊢
 have HI1:=HI
 have hx_b:=HI.out.at (b:=bp) (o:=.cells #[.int .i64 3,.int .i64 2,.int .i64 7,.int .i64 0,.int .i64 1,.int .i64 9] 23) (by simp)
 have x0:=cell_at (o:=0) hx_b rfl
 have x1:=cell_at (o:=1) hx_b rfl
 have x2:=cell_at (o:=2) hx_b rfl
 have x3:=cell_at (o:=3) hx_b rfl
 have x4:=cell_at (o:=4) hx_b rfl
 have x5:=cell_at (o:=5) hx_b rfl
 have xl:=heap_lt hx_b
 clear hx_b
 go_upto_region 7 with (fail)
 rename_i K hK
 have HREST:∀ (ba bb bc:Nat) (Y:World),CBs p3c lo hi L w [(ba,.cells #[.int .i64 3,.int .i64 2,.int .i64 7,.int .i64 0,.int .i64 1,.int .i64 9,.int .i64 0,.int .i64 0] 82),(bb,.cells #[.int .i64 3,.int .i64 2,.int .i64 7,.int .i64 0,.int .i64 1,.int .i64 9,.int .i64 0,.int .i64 1] 82),(bc,.cells #[.int .i64 3,.int .i64 2,.int .i64 7,.int .i64 0,.int .i64 1,.int .i64 9,.int .i64 1,.int .i64 0] 82)] M Y → K { tmps:=#[.int .i64 f,.int .u64 (U v),.int .u64 (U u),undef,undef,undef,.bool false,.pointer (some ⟨bp,0,none⟩),.pointer (some ⟨L.bm,0,none⟩),.pointer (some ⟨ba,0,none⟩),.pointer (some ⟨bb,0,none⟩),.pointer (some ⟨bc,0,none⟩),undef,undef,undef,undef,undef,undef,undef,undef,undef,undef,undef,undef,undef,undef,undef,.bool true,.bool false,.bool false,.int .i64 f,.bool false,.bool false,.bool false,.int .i64 f,.bool false,.bool false,undef,.agg #[.int .i64 3,.int .i64 2,.int .i64 7,.int .i64 0,.int .i64 1,.int .i64 9],.agg #[.int .i64 3,.int .i64 2,.int .i64 7,.int .i64 0,.int .i64 1,.int .i64 9],.pointer (some ⟨L.bm,0,none⟩),.pointer (some ⟨L.bm,0,none⟩),.bool false,.agg #[.int .i64 3,.int .i64 2,.int .i64 7,.int .i64 0,.int .i64 1,.int .i64 9],.agg #[.int .i64 3,.int .i64 2,.int .i64 7,.int .i64 0,.int .i64 1,.int .i64 9,.int .i64 0,.int .i64 0],.agg #[.int .i64 3,.int .i64 2,.int .i64 7,.int .i64 0,.int .i64 1,.int .i64 9],.agg #[.int .i64 3,.int .i64 2,.int .i64 7,.int .i64 0,.int .i64 1,.int .i64 9,.int .i64 0,.int .i64 1],.agg #[.int .i64 3,.int .i64 2,.int .i64 7,.int .i64 0,.int .i64 1,.int .i64 9],.agg #[.int .i64 3,.int .i64 2,.int .i64 7,.int .i64 0,.int .i64 1,.int .i64 9,.int .i64 1,.int .i64 0],undef,undef,undef,undef,undef,undef,undef,undef,undef,undef,undef,undef,undef,undef,undef,undef,undef,undef,undef,undef,undef,undef,undef,undef,undef,undef,undef,undef,undef,undef,undef,undef,undef,undef,undef,undef,undef,undef,undef,undef,undef,undef,undef,undef,undef,undef,undef,undef,undef,undef,undef,undef,undef,undef,undef,undef,undef,undef,undef,undef,undef,undef,undef,undef,undef,undef,undef,undef,undef,undef,undef,undef,undef,undef,undef,undef,undef,undef,undef,undef,undef,undef,undef,undef,undef,undef,undef,undef,undef,undef,undef,undef,undef,undef],defers:=[] } Y:=by
  intro ba bb bc Y hj
  have HJ:=Lib.hid hj
  have HW6:Hid (∀ W,Calls Tryz.prog 50 #[.agg #[.int .i64 3,.int .i64 2,.int .i64 7,.int .i64 0,.int .i64 1,.int .i64 9,.int .i64 1,.int .i64 0],.int .u64 (U x),.int .i64 f,.int .u64 1] W (RetP (PT kR (lookT sc3 x f fun x => wrtT x 1#64)) noF W)):=Lib.hid (fun W => by
   have h:=cwrite_PT sc3 x f 1#64 W
   rw [HU1.out] at h
   exact h)
  clear hj x0 x1 x2 x3 x4 x5 xl HI HI1
  apply hK
  clear hK
  have hx_b:=HJ.out.at (b:=ba) (o:=.cells #[.int .i64 3,.int .i64 2,.int .i64 7,.int .i64 0,.int .i64 1,.int .i64 9,.int .i64 0,.int .i64 0] 82) (by simp)
  have x0:=cell_at (o:=0) hx_b rfl
  have x1:=cell_at (o:=1) hx_b rfl
  have x2:=cell_at (o:=2) hx_b rfl
  have x3:=cell_at (o:=3) hx_b rfl
  have x4:=cell_at (o:=4) hx_b rfl
  have x5:=cell_at (o:=5) hx_b rfl
  have x6:=cell_at (o:=6) hx_b rfl
  have x7:=cell_at (o:=7) hx_b rfl
  have xl:=heap_lt hx_b
  clear hx_b
  go_wp2_with (go_at_call 48;refine (cnew_PT sa3 2 _).mono ?_;rintro e w3 ⟨v1,F1,rfl,hx2,hp1,hbn1,hsub1⟩;refine Hid.out ?_)
  refine Lib.hid ?_
  have HOF1:=Lib.hid (fun j (hj:F1 j) => (hsub1 j hj).elim (fun h => h.elim) fun h => (.inr (Nat.le_trans HJ.out.m.top h):j < lo ∨ hi ≤ j))
  have HJq:=Lib.hid (HJ.out.ext hx2)
  have HP1:=Lib.hid hp1
  have HBN1:=Lib.hid hbn1
  clear hx2 hp1 hbn1 hsub1
  go_wp2_with (go_at_call 18;refine (cap_int HJq.out.m 0 1#64 (by omega) (by rw [HJq.out.mg.n];omega) (Lib.hid HJq.out.mg.e)).mono ?_;rintro e w4 ⟨rfl,hx3⟩;refine Hid.out ?_)
  refine Lib.hid ?_
  have HJr:=Lib.hid (HJq.out.ext hx3)
  replace HP1:=Lib.hid (HP1.out.agr (Agr.of_ext hx3 HBN1.out))
  replace HBN1:=Lib.hid (HBN1.out.ext hx3.size)
  clear hx3
  go_wp2_with (go_at_call 37;refine (runR_at HQ1.out 0 (U x) (Lib.hid rfl) (Lib.hid rfl) 99 (by omega) (by omega) F1 v1 w4 HP1.out HBN1.out HOF1.out HJr.out.m).mono ?_;rintro e w5 ⟨rfl,hm4,hf4⟩;refine Hid.out ?_)
  refine Lib.hid ?_
  have HJ1s:=Lib.hid (HJr.out.ran hm4 hf4 HG.out.1 (by omega))
  clear hm4 hf4 HP1 HBN1 HOF1 HJ HJq HJr HQ1 x0 x1 x2 x3 x4 x5 x6 x7 xl
  go_upto_region 9 with (fail)
  have HJ1:=Lib.hid (HJ1s.out.new (.cells #[.int .i64 0,.int .u64 (U x)] 94))
  clear HJ1s
  generalize w5.alloc (.cells #[.int .i64 0,.int .u64 (U x)] 94) = wx at HJ1 ⊢
  generalize w5.heap.size = r1 at HJ1 ⊢
  have hx_b:=HJ1.out.at (b:=ba) (o:=.cells #[.int .i64 3,.int .i64 2,.int .i64 7,.int .i64 0,.int .i64 1,.int .i64 9,.int .i64 0,.int .i64 0] 82) (by simp)
  have x0:=cell_at (o:=0) hx_b rfl
  have x1:=cell_at (o:=1) hx_b rfl
  have x2:=cell_at (o:=2) hx_b rfl
  have x3:=cell_at (o:=3) hx_b rfl
  have x4:=cell_at (o:=4) hx_b rfl
  have x5:=cell_at (o:=5) hx_b rfl
  have x6:=cell_at (o:=6) hx_b rfl
  have x7:=cell_at (o:=7) hx_b rfl
  have xl:=heap_lt hx_b
  clear hx_b
  have hy_b:=HJ1.out.at (b:=r1) (o:=.cells #[.int .i64 0,.int .u64 (U x)] 94) (by simp)
  have y0:=cell_at (o:=0) hy_b rfl
  have y1:=cell_at (o:=1) hy_b rfl
  have yl:=heap_lt hy_b
  clear hy_b
  go_wp2_with (go_at_call 50;refine (cwrite_PT sa3 x f v _).mono ?_;rintro e w3 ⟨v1,F1,rfl,hx2,hp1,hbn1,hsub1⟩;refine Hid.out ?_)
  refine Lib.hid ?_
  have HOF1:=Lib.hid (fun j (hj:F1 j) => (hsub1 j hj).elim (fun h => h.elim) fun h => (.inr (Nat.le_trans HJ1.out.m.top h):j < lo ∨ hi ≤ j))
  have HJ1q:=Lib.hid (HJ1.out.ext hx2)
  have HP1:=Lib.hid hp1
  have HBN1:=Lib.hid hbn1
  clear hx2 hp1 hbn1 hsub1
  go_wp2_with (go_at_call 18;refine (cap_int HJ1q.out.m 0 1#64 (by omega) (by rw [HJ1q.out.mg.n];omega) (Lib.hid HJ1q.out.mg.e)).mono ?_;rintro e w4 ⟨rfl,hx3⟩;refine Hid.out ?_)
  refine Lib.hid ?_
  have HJ1r:=Lib.hid (HJ1q.out.ext hx3)
  replace HP1:=Lib.hid (HP1.out.agr (Agr.of_ext hx3 HBN1.out))
  replace HBN1:=Lib.hid (HBN1.out.ext hx3.size)
  clear hx3
  go_wp2_with (go_at_call 37;refine (runR_at HQ2.out _ _ (Lib.hid rfl) (Lib.hid rfl) 99 (by omega) (by omega) F1 v1 w4 HP1.out HBN1.out HOF1.out HJ1r.out.m).mono ?_;rintro e w5 ⟨rfl,hm4,hf4⟩;refine Hid.out ?_)
  refine Lib.hid ?_
  have HJ2:=Lib.hid (HJ1r.out.ran hm4 hf4 HG.out.2.1 (by omega))
  clear hm4 hf4 HP1 HBN1 HOF1 HJ1 HJ1q HJ1r HQ2 x0 x1 x2 x3 x4 x5 x6 x7 xl y0 y1 yl
  have hx_b:=HJ2.out.at (b:=bb) (o:=.cells #[.int .i64 3,.int .i64 2,.int .i64 7,.int .i64 0,.int .i64 1,.int .i64 9,.int .i64 0,.int .i64 1] 82) (by simp)
  have x0:=cell_at (o:=0) hx_b rfl
  have x1:=cell_at (o:=1) hx_b rfl
  have x2:=cell_at (o:=2) hx_b rfl
  have x3:=cell_at (o:=3) hx_b rfl
  have x4:=cell_at (o:=4) hx_b rfl
  have x5:=cell_at (o:=5) hx_b rfl
  have x6:=cell_at (o:=6) hx_b rfl
  have x7:=cell_at (o:=7) hx_b rfl
  have xl:=heap_lt hx_b
  clear hx_b
  have hy_b:=HJ2.out.at (b:=r1) (o:=.cells #[.int .i64 0,.int .u64 (U x)] 94) (by simp)
  have y0:=cell_at (o:=0) hy_b rfl
  have y1:=cell_at (o:=1) hy_b rfl
  have yl:=heap_lt hy_b
  clear hy_b
  go_wp2_with (go_at_call 49;refine (cread_PT sb3 x f _).mono ?_;rintro e w3 ⟨v1,F1,rfl,hx2,hp1,hbn1,hsub1⟩;refine Hid.out ?_)
  refine Lib.hid ?_
  have HOF1:=Lib.hid (fun j (hj:F1 j) => (hsub1 j hj).elim (fun h => h.elim) fun h => (.inr (Nat.le_trans HJ2.out.m.top h):j < lo ∨ hi ≤ j))
  have HJ2q:=Lib.hid (HJ2.out.ext hx2)
  have HP1:=Lib.hid hp1
  have HBN1:=Lib.hid hbn1
  clear hx2 hp1 hbn1 hsub1
  go_wp2_with (go_at_call 18;refine (cap_int HJ2q.out.m 0 1#64 (by omega) (by rw [HJ2q.out.mg.n];omega) (Lib.hid HJ2q.out.mg.e)).mono ?_;rintro e w4 ⟨rfl,hx3⟩;refine Hid.out ?_)
  refine Lib.hid ?_
  have HJ2r:=Lib.hid (HJ2q.out.ext hx3)
  replace HP1:=Lib.hid (HP1.out.agr (Agr.of_ext hx3 HBN1.out))
  replace HBN1:=Lib.hid (HBN1.out.ext hx3.size)
  clear hx3
  go_wp2_with (go_at_call 37;refine (runR_at HQ3.out 0 (U v) (Lib.hid rfl) (Lib.hid rfl) 99 (by omega) (by omega) F1 v1 w4 HP1.out HBN1.out HOF1.out HJ2r.out.m).mono ?_;rintro e w5 ⟨rfl,hm4,hf4⟩;refine Hid.out ?_)
  refine Lib.hid ?_
  have HJ3s:=Lib.hid (HJ2r.out.ran hm4 hf4 HG.out.2.2.1 (by omega))
  clear hm4 hf4 HP1 HBN1 HOF1 HJ2 HJ2q HJ2r HQ3 x0 x1 x2 x3 x4 x5 x6 x7 xl y0 y1 yl
  go_upto_region 11 with (fail)
  have HJ3:=Lib.hid (HJ3s.out.new (.cells #[.int .i64 0,.int .u64 (U v)] 94))
  clear HJ3s
  generalize w5.alloc (.cells #[.int .i64 0,.int .u64 (U v)] 94) = wx at HJ3 ⊢
  generalize w5.heap.size = r3 at HJ3 ⊢
  have hx_b:=HJ3.out.at (b:=bb) (o:=.cells #[.int .i64 3,.int .i64 2,.int .i64 7,.int .i64 0,.int .i64 1,.int .i64 9,.int .i64 0,.int .i64 1] 82) (by simp)
  have x0:=cell_at (o:=0) hx_b rfl
  have x1:=cell_at (o:=1) hx_b rfl
  have x2:=cell_at (o:=2) hx_b rfl
  have x3:=cell_at (o:=3) hx_b rfl
  have x4:=cell_at (o:=4) hx_b rfl
  have x5:=cell_at (o:=5) hx_b rfl
  have x6:=cell_at (o:=6) hx_b rfl
  have x7:=cell_at (o:=7) hx_b rfl
  have xl:=heap_lt hx_b
  clear hx_b
  have hy_b:=HJ3.out.at (b:=r1) (o:=.cells #[.int .i64 0,.int .u64 (U x)] 94) (by simp)
  have y0:=cell_at (o:=0) hy_b rfl
  have y1:=cell_at (o:=1) hy_b rfl
  have yl:=heap_lt hy_b
  clear hy_b
  go_wp2_with (go_at_call 53;refine (cswap_PT sb3 x f v u _).mono ?_;rintro e w3 ⟨v1,F1,rfl,hx2,hp1,hbn1,hsub1⟩;refine Hid.out ?_)
  refine Lib.hid ?_
  have HOF1:=Lib.hid (fun j (hj:F1 j) => (hsub1 j hj).elim (fun h => h.elim) fun h => (.inr (Nat.le_trans HJ3.out.m.top h):j < lo ∨ hi ≤ j))
  have HJ3q:=Lib.hid (HJ3.out.ext hx2)
  have HP1:=Lib.hid hp1
  have HBN1:=Lib.hid hbn1
  clear hx2 hp1 hbn1 hsub1
  go_wp2_with (go_at_call 18;refine (cap_int HJ3q.out.m 0 1#64 (by omega) (by rw [HJ3q.out.mg.n];omega) (Lib.hid HJ3q.out.mg.e)).mono ?_;rintro e w4 ⟨rfl,hx3⟩;refine Hid.out ?_)
  refine Lib.hid ?_
  have HJ3r:=Lib.hid (HJ3q.out.ext hx3)
  replace HP1:=Lib.hid (HP1.out.agr (Agr.of_ext hx3 HBN1.out))
  replace HBN1:=Lib.hid (HBN1.out.ext hx3.size)
  clear hx3
  go_wp2_with (go_at_call 37;refine (runR_at HQ4.out 0 1 (Lib.hid rfl) (Lib.hid HU1.out) 99 (by omega) (by omega) F1 v1 w4 HP1.out HBN1.out HOF1.out HJ3r.out.m).mono ?_;rintro e w5 ⟨rfl,hm4,hf4⟩;refine Hid.out ?_)
  refine Lib.hid ?_
  have HJ4s:=Lib.hid (HJ3r.out.ran hm4 hf4 HG.out.2.2.2.1 (by omega))
  clear hm4 hf4 HP1 HBN1 HOF1 HJ3 HJ3q HJ3r HQ4 x0 x1 x2 x3 x4 x5 x6 x7 xl y0 y1 yl
  go_upto_region 12 with (fail)
  have HJ4:=Lib.hid (HJ4s.out.new (.cells #[.int .i64 0,.int .u64 1] 94))
  clear HJ4s
  generalize w5.alloc (.cells #[.int .i64 0,.int .u64 1] 94) = wx at HJ4 ⊢
  generalize w5.heap.size = r4 at HJ4 ⊢
  have hx_b:=HJ4.out.at (b:=ba) (o:=.cells #[.int .i64 3,.int .i64 2,.int .i64 7,.int .i64 0,.int .i64 1,.int .i64 9,.int .i64 0,.int .i64 0] 82) (by simp)
  have x0:=cell_at (o:=0) hx_b rfl
  have x1:=cell_at (o:=1) hx_b rfl
  have x2:=cell_at (o:=2) hx_b rfl
  have x3:=cell_at (o:=3) hx_b rfl
  have x4:=cell_at (o:=4) hx_b rfl
  have x5:=cell_at (o:=5) hx_b rfl
  have x6:=cell_at (o:=6) hx_b rfl
  have x7:=cell_at (o:=7) hx_b rfl
  have xl:=heap_lt hx_b
  clear hx_b
  have hy_b:=HJ4.out.at (b:=r1) (o:=.cells #[.int .i64 0,.int .u64 (U x)] 94) (by simp)
  have y0:=cell_at (o:=0) hy_b rfl
  have y1:=cell_at (o:=1) hy_b rfl
  have yl:=heap_lt hy_b
  clear hy_b
  go_wp2_with (go_at_call 49;refine (cread_PT sa3 x f _).mono ?_;rintro e w3 ⟨v1,F1,rfl,hx2,hp1,hbn1,hsub1⟩;refine Hid.out ?_)
  refine Lib.hid ?_
  have HOF1:=Lib.hid (fun j (hj:F1 j) => (hsub1 j hj).elim (fun h => h.elim) fun h => (.inr (Nat.le_trans HJ4.out.m.top h):j < lo ∨ hi ≤ j))
  have HJ4q:=Lib.hid (HJ4.out.ext hx2)
  have HP1:=Lib.hid hp1
  have HBN1:=Lib.hid hbn1
  clear hx2 hp1 hbn1 hsub1
  go_wp2_with (go_at_call 18;refine (cap_int HJ4q.out.m 0 1#64 (by omega) (by rw [HJ4q.out.mg.n];omega) (Lib.hid HJ4q.out.mg.e)).mono ?_;rintro e w4 ⟨rfl,hx3⟩;refine Hid.out ?_)
  refine Lib.hid ?_
  have HJ4r:=Lib.hid (HJ4q.out.ext hx3)
  replace HP1:=Lib.hid (HP1.out.agr (Agr.of_ext hx3 HBN1.out))
  replace HBN1:=Lib.hid (HBN1.out.ext hx3.size)
  clear hx3
  go_wp2_with (go_at_call 37;refine (runR_at HQ5.out 0 (U u) (Lib.hid rfl) (Lib.hid rfl) 99 (by omega) (by omega) F1 v1 w4 HP1.out HBN1.out HOF1.out HJ4r.out.m).mono ?_;rintro e w5 ⟨rfl,hm4,hf4⟩;refine Hid.out ?_)
  refine Lib.hid ?_
  have HJ5s:=Lib.hid (HJ4r.out.ran hm4 hf4 HG.out.2.2.2.2 (by omega))
  clear hm4 hf4 HP1 HBN1 HOF1 HJ4 HJ4q HJ4r HQ5 x0 x1 x2 x3 x4 x5 x6 x7 xl y0 y1 yl
  go_upto_region 13 with (fail)
  have HJ5:=Lib.hid (HJ5s.out.new (.cells #[.int .i64 0,.int .u64 (U u)] 94))
  clear HJ5s
  generalize w5.alloc (.cells #[.int .i64 0,.int .u64 (U u)] 94) = wx at HJ5 ⊢
  generalize w5.heap.size = r5 at HJ5 ⊢
  have hx_b:=HJ5.out.at (b:=bc) (o:=.cells #[.int .i64 3,.int .i64 2,.int .i64 7,.int .i64 0,.int .i64 1,.int .i64 9,.int .i64 1,.int .i64 0] 82) (by simp)
  have x0:=cell_at (o:=0) hx_b rfl
  have x1:=cell_at (o:=1) hx_b rfl
  have x2:=cell_at (o:=2) hx_b rfl
  have x3:=cell_at (o:=3) hx_b rfl
  have x4:=cell_at (o:=4) hx_b rfl
  have x5:=cell_at (o:=5) hx_b rfl
  have x6:=cell_at (o:=6) hx_b rfl
  have x7:=cell_at (o:=7) hx_b rfl
  have xl:=heap_lt hx_b
  clear hx_b
  have hy_b:=HJ5.out.at (b:=r1) (o:=.cells #[.int .i64 0,.int .u64 (U x)] 94) (by simp)
  have y0:=cell_at (o:=0) hy_b rfl
  have y1:=cell_at (o:=1) hy_b rfl
  have yl:=heap_lt hy_b
  clear hy_b
  go_wp2_with (go_at_call 50;refine (HW6.out _).mono ?_;rintro e w3 ⟨v1,F1,rfl,hx2,hp1,hbn1,hsub1⟩;refine Hid.out ?_)
  refine Lib.hid ?_
  have HOF1:=Lib.hid (fun j (hj:F1 j) => (hsub1 j hj).elim (fun h => h.elim) fun h => (.inr (Nat.le_trans HJ5.out.m.top h):j < lo ∨ hi ≤ j))
  have HJ5q:=Lib.hid (HJ5.out.ext hx2)
  have HP1:=Lib.hid hp1
  have HBN1:=Lib.hid hbn1
  clear hx2 hp1 hbn1 hsub1
  go_wp2_with (go_at_call 18;refine (cap_int HJ5q.out.m 0 1#64 (by omega) (by rw [HJ5q.out.mg.n];omega) (Lib.hid HJ5q.out.mg.e)).mono ?_;rintro e w4 ⟨rfl,hx3⟩;refine Hid.out ?_)
  refine Lib.hid ?_
  have HJ5r:=Lib.hid (HJ5q.out.ext hx3)
  replace HP1:=Lib.hid (HP1.out.agr (Agr.of_ext hx3 HBN1.out))
  replace HBN1:=Lib.hid (HBN1.out.ext hx3.size)
  clear hx3
  go_wp2_with (go_at_call 37;refine (runR_at HQ6.out 3 0 (Lib.hid rfl) (Lib.hid U_0) 99 (by omega) (by omega) F1 v1 w4 HP1.out HBN1.out HOF1.out HJ5r.out.m).mono ?_;rintro e w5 ⟨rfl,hm4,hf4⟩;refine Hid.out ?_)
  refine Lib.hid ?_
  have HJ6s:=Lib.hid (HJ5r.out.ran hm4 hf4 HG.out.2.2.2.2 (by omega))
  clear hm4 hf4 HP1 HBN1 HOF1 HJ5 HJ5q HJ5r HQ6 x0 x1 x2 x3 x4 x5 x6 x7 xl y0 y1 yl
  go_upto_region 14 with (fail)
  have HJ6:=Lib.hid (HJ6s.out.new (.cells #[.int .i64 3,.int .u64 0] 94))
  clear HJ6s
  generalize w5.alloc (.cells #[.int .i64 3,.int .u64 0] 94) = wx at HJ6 ⊢
  generalize w5.heap.size = r6 at HJ6 ⊢
  have hy_b:=HJ6.out.at (b:=r3) (o:=.cells #[.int .i64 0,.int .u64 (U v)] 94) (by simp)
  have y0:=cell_at (o:=0) hy_b rfl
  have y1:=cell_at (o:=1) hy_b rfl
  have yl:=heap_lt hy_b
  clear hy_b
  have hq_b:=HJ6.out.at (b:=r4) (o:=.cells #[.int .i64 0,.int .u64 1] 94) (by simp)
  have q0:=cell_at (o:=0) hq_b rfl
  have q1:=cell_at (o:=1) hq_b rfl
  have ql:=heap_lt hq_b
  clear hq_b
  have hs_b:=HJ6.out.at (b:=r5) (o:=.cells #[.int .i64 0,.int .u64 (U u)] 94) (by simp)
  have s0:=cell_at (o:=0) hs_b rfl
  have s1:=cell_at (o:=1) hs_b rfl
  have sl:=heap_lt hs_b
  clear hs_b
  have ht_b:=HJ6.out.at (b:=r6) (o:=.cells #[.int .i64 3,.int .u64 0] 94) (by simp)
  have t0:=cell_at (o:=0) ht_b rfl
  have t1:=cell_at (o:=1) ht_b rfl
  have tl:=heap_lt ht_b
  clear ht_b
  have hg:=gdR2
  have e1:∀ y,(binOp .eql 94 (.agg #[.int .i64 0,.int .u64 (U v)]) (.agg #[.int .i64 0,.int .u64 (U v)])).run Tryz.prog y = .ok (.bool true) y:=eqR2 _ _ _ _ _ (by simp)
  have e2:∀ y,(binOp .eql 94 (.agg #[.int .i64 0,.int .u64 1]) (.agg #[.int .i64 0,.int .u64 1])).run Tryz.prog y = .ok (.bool true) y:=eqR2 _ _ _ _ _ (by simp)
  have e3:∀ y,(binOp .eql 94 (.agg #[.int .i64 0,.int .u64 (U u)]) (.agg #[.int .i64 0,.int .u64 (U u)])).run Tryz.prog y = .ok (.bool true) y:=eqR2 _ _ _ _ _ (by simp)
  have e4:∀ y,(binOp .eql 94 (.agg #[.int .i64 3,.int .u64 0]) (.agg #[.int .i64 3,.int .u64 0])).run Tryz.prog y = .ok (.bool true) y:=eqR2 _ _ _ _ _ (by simp)
  go_wp2
  go_ret
  exact Ret.mk HJ6.out.ex
 have HB:=Lib.hid (HI1.out.sub (cs:=[]) (fun _ h => by simp at h))
 have hww1:=HI1.out.ex.size
 clear HI1 HI hK HQ1 HQ2 HQ3 HQ4 HQ5 HQ6 HG h3 h4
 refine wp_region_ways (fun x => ∃ s,x = over w1 s) (by kernel_rfl) (over_of (ext_drew (ext_refl w1))) ?_
 refine ways_reads [0,1,2,3,4,5] (by kernel_rfl) ?_
 simp only [pickL,List.map_cons,List.map_nil,List.getD_cons_zero,List.getD_cons_succ]
 repeat (go_big_quiet_step (fail))
 refine wpQuiet_nil ?_
 have HE:=Lib.hid (ext_drew (ext_refl w1))
 replace HB:=Lib.hid (HB.out.ext (ext_drew (ext_refl w1)))
 generalize w1.drew = Z0 at HE HB ⊢
 refine ways_fork 6 (by kernel_rfl) ?_ (ways_fork 7 (by kernel_rfl) ?_ (ways_act 8 (by kernel_rfl) ?_))
 ·simp only [pickL,List.map_cons,List.map_nil,List.getD_cons_zero,List.getD_cons_succ]
  go_wp2
  have hxa:=ext_alloc (.cells #[.int .i64 0,.int .i64 0,.int .i64 0,.int .i64 0,.int .i64 0,.int .i64 0,.int .i64 0,.int .i64 0] 82) (ext_refl Z0)
  have HE':=Lib.hid (ext_trans HE.out hxa)
  have HB':=Lib.hid (HB.out.ext hxa)
  have HA0:=Lib.hid (heap_at Z0 (.cells #[.int .i64 0,.int .i64 0,.int .i64 0,.int .i64 0,.int .i64 0,.int .i64 0,.int .i64 0,.int .i64 0] 82) Z0.heap.size rfl)
  have HL0:Hid (w1.heap.size ≤ Z0.heap.size):=Lib.hid HE.out.size
  clear hxa
  refine mixQ_mk (over_of HE'.out) ?_
  generalize Z0.alloc (.cells #[.int .i64 0,.int .i64 0,.int .i64 0,.int .i64 0,.int .i64 0,.int .i64 0,.int .i64 0,.int .i64 0] 82) = Z1 at HE' HB' HA0 ⊢
  generalize Z0.heap.size = ba at HA0 HL0 ⊢
  clear HE HB
  have HE:=HE'
  clear HE'
  have HB:=HB'
  clear HB'
  refine ways_fork 7 (by kernel_rfl) ?_ (ways_act 8 (by kernel_rfl) ?_)
  ·simp only [pickL,List.map_cons,List.map_nil,List.getD_cons_zero,List.getD_cons_succ]
   go_wp2
   have hxa:=ext_alloc (.cells #[.int .i64 0,.int .i64 0,.int .i64 0,.int .i64 0,.int .i64 0,.int .i64 0,.int .i64 0,.int .i64 0] 82) (ext_refl Z1)
   have HE':=Lib.hid (ext_trans HE.out hxa)
   have HB':=Lib.hid (HB.out.ext hxa)
   have HA1:=Lib.hid (heap_at Z1 (.cells #[.int .i64 0,.int .i64 0,.int .i64 0,.int .i64 0,.int .i64 0,.int .i64 0,.int .i64 0,.int .i64 0] 82) Z1.heap.size rfl)
   have HL1:Hid (w1.heap.size ≤ Z1.heap.size):=Lib.hid HE.out.size
   have HA0':=Lib.hid ((hxa.block _ (heap_lt HA0.out)).trans HA0.out)
   have HN01:Hid (ba ≠ Z1.heap.size):=Lib.hid (by have:=heap_lt HA0.out;omega)
   clear hxa
   refine mixQ_mk (over_of HE'.out) ?_
   generalize Z1.alloc (.cells #[.int .i64 0,.int .i64 0,.int .i64 0,.int .i64 0,.int .i64 0,.int .i64 0,.int .i64 0,.int .i64 0] 82) = Z2 at HE' HB' HA1 HA0' ⊢
   generalize Z1.heap.size = bb at HA1 HL1 HN01 ⊢
   clear HE HB HA0
   have HE:=HE'
   clear HE'
   have HB:=HB'
   clear HB'
   have HA0:=HA0'
   clear HA0'
   refine ways_act 8 (by kernel_rfl) ?_
   simp only [pickL,List.map_cons,List.map_nil,List.getD_cons_zero,List.getD_cons_succ]
   go_wp2
   have hxa:=ext_alloc (.cells #[.int .i64 0,.int .i64 0,.int .i64 0,.int .i64 0,.int .i64 0,.int .i64 0,.int .i64 0,.int .i64 0] 82) (ext_refl Z2)
   have HE':=Lib.hid (ext_trans HE.out hxa)
   have HB':=Lib.hid (HB.out.ext hxa)
   have HA2:=Lib.hid (heap_at Z2 (.cells #[.int .i64 0,.int .i64 0,.int .i64 0,.int .i64 0,.int .i64 0,.int .i64 0,.int .i64 0,.int .i64 0] 82) Z2.heap.size rfl)
   have HL2:Hid (w1.heap.size ≤ Z2.heap.size):=Lib.hid HE.out.size
   have HA0':=Lib.hid ((hxa.block _ (heap_lt HA0.out)).trans HA0.out)
   have HN02:Hid (ba ≠ Z2.heap.size):=Lib.hid (by have:=heap_lt HA0.out;omega)
   have HA1':=Lib.hid ((hxa.block _ (heap_lt HA1.out)).trans HA1.out)
   have HN12:Hid (bb ≠ Z2.heap.size):=Lib.hid (by have:=heap_lt HA1.out;omega)
   clear hxa
   refine mixQ_mk (over_of HE'.out) ?_
   generalize Z2.alloc (.cells #[.int .i64 0,.int .i64 0,.int .i64 0,.int .i64 0,.int .i64 0,.int .i64 0,.int .i64 0,.int .i64 0] 82) = Z3 at HE' HB' HA2 HA0' HA1' ⊢
   generalize Z2.heap.size = bc at HA2 HL2 HN02 HN12 ⊢
   clear HE HB HA0 HA1
   have HE:=HE'
   clear HE'
   have HB:=HB'
   clear HB'
   have HA0:=HA0'
   clear HA0'
   have HA1:=HA1'
   clear HA1'
   refine ways_act 9 (by kernel_rfl) ?_
   simp only [pickL,List.map_cons,List.map_nil,List.getD_cons_zero,List.getD_cons_succ]
   obtain ⟨k0,k1,k2,k3,k4,k5,k6,k7,kz,kl⟩:=eit_of HA0.out
   have hE1:=put8_ext (b:=ba) (.int .i64 3) (.int .i64 2) (.int .i64 7) (.int .i64 0) (.int .i64 1) (.int .i64 9) (.int .i64 0) (.int .i64 0) HE.out HL0.out
   have hB1:=HB.out.stored8n (b:=ba) (.int .i64 3) (.int .i64 2) (.int .i64 7) (.int .i64 0) (.int .i64 1) (.int .i64 9) (.int .i64 0) (.int .i64 0) (Nat.le_trans hhi HL0.out) (Nat.le_trans hww1 HL0.out)
   have hA0:=put8_block (.int .i64 3) (.int .i64 2) (.int .i64 7) (.int .i64 0) (.int .i64 1) (.int .i64 9) (.int .i64 0) (.int .i64 0) HA0.out
   have hA1:=(put8_other (w:=Z3) (b:=ba) (k:=bb) (.int .i64 3) (.int .i64 2) (.int .i64 7) (.int .i64 0) (.int .i64 1) (.int .i64 9) (.int .i64 0) (.int .i64 0) (Ne.symm HN01.out)).trans HA1.out
   have hA2:=(put8_other (w:=Z3) (b:=ba) (k:=bc) (.int .i64 3) (.int .i64 2) (.int .i64 7) (.int .i64 0) (.int .i64 1) (.int .i64 9) (.int .i64 0) (.int .i64 0) (Ne.symm HN02.out)).trans HA2.out
   rw [put8] at hE1 hB1 hA0 hA1 hA2
   have HY:=Lib.hid (And.intro hE1 (And.intro hB1 (And.intro hA0 (And.intro hA1 (hA2)))))
   clear hE1 hB1 hA0 hA1 hA2 HE HB HA0 HA1 HA2
   go_wp2
   clear k0 k1 k2 k3 k4 k5 k6 k7 kz kl
   obtain ⟨hE1,hB1,hA0,hA1,hA2⟩:=HY.out
   clear HY
   generalize (World.setCell _ (⟨ba,7,none⟩ : Addr) _) = Z4 at hE1 hB1 hA0 hA1 hA2 ⊢
   refine mixQ_mk (over_of hE1) ?_
   have HE:=Lib.hid hE1
   have HB:=Lib.hid hB1
   have HA0:=Lib.hid hA0
   have HA1:=Lib.hid hA1
   have HA2:=Lib.hid hA2
   clear hE1 hB1 hA0 hA1 hA2
   refine ways_act 10 (by kernel_rfl) ?_
   simp only [pickL,List.map_cons,List.map_nil,List.getD_cons_zero,List.getD_cons_succ]
   obtain ⟨k0,k1,k2,k3,k4,k5,k6,k7,kz,kl⟩:=eit_of HA1.out
   have hE1:=put8_ext (b:=bb) (.int .i64 3) (.int .i64 2) (.int .i64 7) (.int .i64 0) (.int .i64 1) (.int .i64 9) (.int .i64 0) (.int .i64 1) HE.out HL1.out
   have hB1:=HB.out.stored8n (b:=bb) (.int .i64 3) (.int .i64 2) (.int .i64 7) (.int .i64 0) (.int .i64 1) (.int .i64 9) (.int .i64 0) (.int .i64 1) (Nat.le_trans hhi HL1.out) (Nat.le_trans hww1 HL1.out)
   have hA1:=put8_block (.int .i64 3) (.int .i64 2) (.int .i64 7) (.int .i64 0) (.int .i64 1) (.int .i64 9) (.int .i64 0) (.int .i64 1) HA1.out
   have hA0:=(put8_other (w:=Z4) (b:=bb) (k:=ba) (.int .i64 3) (.int .i64 2) (.int .i64 7) (.int .i64 0) (.int .i64 1) (.int .i64 9) (.int .i64 0) (.int .i64 1) HN01.out).trans HA0.out
   have hA2:=(put8_other (w:=Z4) (b:=bb) (k:=bc) (.int .i64 3) (.int .i64 2) (.int .i64 7) (.int .i64 0) (.int .i64 1) (.int .i64 9) (.int .i64 0) (.int .i64 1) (Ne.symm HN12.out)).trans HA2.out
   rw [put8] at hE1 hB1 hA0 hA1 hA2
   have HY:=Lib.hid (And.intro hE1 (And.intro hB1 (And.intro hA0 (And.intro hA1 (hA2)))))
   clear hE1 hB1 hA0 hA1 hA2 HE HB HA0 HA1 HA2
   go_wp2
   clear k0 k1 k2 k3 k4 k5 k6 k7 kz kl
   obtain ⟨hE1,hB1,hA0,hA1,hA2⟩:=HY.out
   clear HY
   generalize (World.setCell _ (⟨bb,7,none⟩ : Addr) _) = Z5 at hE1 hB1 hA0 hA1 hA2 ⊢
   refine mixQ_mk (over_of hE1) ?_
   have HE:=Lib.hid hE1
   have HB:=Lib.hid hB1
   have HA0:=Lib.hid hA0
   have HA1:=Lib.hid hA1
   have HA2:=Lib.hid hA2
   clear hE1 hB1 hA0 hA1 hA2
   refine ways_act 11 (by kernel_rfl) ?_
   simp only [pickL,List.map_cons,List.map_nil,List.getD_cons_zero,List.getD_cons_succ]
   obtain ⟨k0,k1,k2,k3,k4,k5,k6,k7,kz,kl⟩:=eit_of HA2.out
   have hE1:=put8_ext (b:=bc) (.int .i64 3) (.int .i64 2) (.int .i64 7) (.int .i64 0) (.int .i64 1) (.int .i64 9) (.int .i64 1) (.int .i64 0) HE.out HL2.out
   have hB1:=HB.out.stored8n (b:=bc) (.int .i64 3) (.int .i64 2) (.int .i64 7) (.int .i64 0) (.int .i64 1) (.int .i64 9) (.int .i64 1) (.int .i64 0) (Nat.le_trans hhi HL2.out) (Nat.le_trans hww1 HL2.out)
   have hA2:=put8_block (.int .i64 3) (.int .i64 2) (.int .i64 7) (.int .i64 0) (.int .i64 1) (.int .i64 9) (.int .i64 1) (.int .i64 0) HA2.out
   have hA0:=(put8_other (w:=Z5) (b:=bc) (k:=ba) (.int .i64 3) (.int .i64 2) (.int .i64 7) (.int .i64 0) (.int .i64 1) (.int .i64 9) (.int .i64 1) (.int .i64 0) HN02.out).trans HA0.out
   have hA1:=(put8_other (w:=Z5) (b:=bc) (k:=bb) (.int .i64 3) (.int .i64 2) (.int .i64 7) (.int .i64 0) (.int .i64 1) (.int .i64 9) (.int .i64 1) (.int .i64 0) HN12.out).trans HA1.out
   rw [put8] at hE1 hB1 hA0 hA1 hA2
   have HY:=Lib.hid (And.intro hE1 (And.intro hB1 (And.intro hA0 (And.intro hA1 (hA2)))))
   clear hE1 hB1 hA0 hA1 hA2 HE HB HA0 HA1 HA2
   go_wp2
   clear k0 k1 k2 k3 k4 k5 k6 k7 kz kl
   obtain ⟨hE1,hB1,hA0,hA1,hA2⟩:=HY.out
   clear HY
   generalize (World.setCell _ (⟨bc,7,none⟩ : Addr) _) = Z6 at hE1 hB1 hA0 hA1 hA2 ⊢
   refine mixQ_mk (over_of hE1) ?_
   have HE:=Lib.hid hE1
   have HB:=Lib.hid hB1
   have HA0:=Lib.hid hA0
   have HA1:=Lib.hid hA1
   have HA2:=Lib.hid hA2
   clear hE1 hB1 hA0 hA1 hA2
   refine ways_end (by kernel_rfl) ?_
   exact HREST ba bb bc Z6 (((HB.out.add (b:=bc) (o:=.cells #[.int .i64 3,.int .i64 2,.int .i64 7,.int .i64 0,.int .i64 1,.int .i64 9,.int .i64 1,.int .i64 0] 82) (.inr (Nat.le_trans hhi HL2.out)) (Nat.le_trans hww1 HL2.out) HA2.out).add (b:=bb) (o:=.cells #[.int .i64 3,.int .i64 2,.int .i64 7,.int .i64 0,.int .i64 1,.int .i64 9,.int .i64 0,.int .i64 1] 82) (.inr (Nat.le_trans hhi HL1.out)) (Nat.le_trans hww1 HL1.out) HA1.out).add (b:=ba) (o:=.cells #[.int .i64 3,.int .i64 2,.int .i64 7,.int .i64 0,.int .i64 1,.int .i64 9,.int .i64 0,.int .i64 0] 82) (.inr (Nat.le_trans hhi HL0.out)) (Nat.le_trans hww1 HL0.out) HA0.out)
  ·simp only [pickL,List.map_cons,List.map_nil,List.getD_cons_zero,List.getD_cons_succ]
   go_wp2
   have hxa:=ext_alloc (.cells #[.int .i64 0,.int .i64 0,.int .i64 0,.int .i64 0,.int .i64 0,.int .i64 0,.int .i64 0,.int .i64 0] 82) (ext_refl Z1)
   have HE':=Lib.hid (ext_trans HE.out hxa)
   have HB':=Lib.hid (HB.out.ext hxa)
   have HA2:=Lib.hid (heap_at Z1 (.cells #[.int .i64 0,.int .i64 0,.int .i64 0,.int .i64 0,.int .i64 0,.int .i64 0,.int .i64 0,.int .i64 0] 82) Z1.heap.size rfl)
   have HL2:Hid (w1.heap.size ≤ Z1.heap.size):=Lib.hid HE.out.size
   have HA0':=Lib.hid ((hxa.block _ (heap_lt HA0.out)).trans HA0.out)
   have HN02:Hid (ba ≠ Z1.heap.size):=Lib.hid (by have:=heap_lt HA0.out;omega)
   clear hxa
   refine mixQ_mk (over_of HE'.out) ?_
   generalize Z1.alloc (.cells #[.int .i64 0,.int .i64 0,.int .i64 0,.int .i64 0,.int .i64 0,.int .i64 0,.int .i64 0,.int .i64 0] 82) = Z2 at HE' HB' HA2 HA0' ⊢
   generalize Z1.heap.size = bc at HA2 HL2 HN02 ⊢
   clear HE HB HA0
   have HE:=HE'
   clear HE'
   have HB:=HB'
   clear HB'
   have HA0:=HA0'
   clear HA0'
   refine ways_act 7 (by kernel_rfl) ?_
   simp only [pickL,List.map_cons,List.map_nil,List.getD_cons_zero,List.getD_cons_succ]
   go_wp2
   have hxa:=ext_alloc (.cells #[.int .i64 0,.int .i64 0,.int .i64 0,.int .i64 0,.int .i64 0,.int .i64 0,.int .i64 0,.int .i64 0] 82) (ext_refl Z2)
   have HE':=Lib.hid (ext_trans HE.out hxa)
   have HB':=Lib.hid (HB.out.ext hxa)
   have HA1:=Lib.hid (heap_at Z2 (.cells #[.int .i64 0,.int .i64 0,.int .i64 0,.int .i64 0,.int .i64 0,.int .i64 0,.int .i64 0,.int .i64 0] 82) Z2.heap.size rfl)
   have HL1:Hid (w1.heap.size ≤ Z2.heap.size):=Lib.hid HE.out.size
   have HA0':=Lib.hid ((hxa.block _ (heap_lt HA0.out)).trans HA0.out)
   have HN01:Hid (ba ≠ Z2.heap.size):=Lib.hid (by have:=heap_lt HA0.out;omega)
   have HA2':=Lib.hid ((hxa.block _ (heap_lt HA2.out)).trans HA2.out)
   have HN21:Hid (bc ≠ Z2.heap.size):=Lib.hid (by have:=heap_lt HA2.out;omega)
   clear hxa
   refine mixQ_mk (over_of HE'.out) ?_
   generalize Z2.alloc (.cells #[.int .i64 0,.int .i64 0,.int .i64 0,.int .i64 0,.int .i64 0,.int .i64 0,.int .i64 0,.int .i64 0] 82) = Z3 at HE' HB' HA1 HA0' HA2' ⊢
   generalize Z2.heap.size = bb at HA1 HL1 HN01 HN21 ⊢
   clear HE HB HA0 HA2
   have HE:=HE'
   clear HE'
   have HB:=HB'
   clear HB'
   have HA0:=HA0'
   clear HA0'
   have HA2:=HA2'
   clear HA2'
   refine ways_act 9 (by kernel_rfl) ?_
   simp only [pickL,List.map_cons,List.map_nil,List.getD_cons_zero,List.getD_cons_succ]
   obtain ⟨k0,k1,k2,k3,k4,k5,k6,k7,kz,kl⟩:=eit_of HA0.out
   have hE1:=put8_ext (b:=ba) (.int .i64 3) (.int .i64 2) (.int .i64 7) (.int .i64 0) (.int .i64 1) (.int .i64 9) (.int .i64 0) (.int .i64 0) HE.out HL0.out
   have hB1:=HB.out.stored8n (b:=ba) (.int .i64 3) (.int .i64 2) (.int .i64 7) (.int .i64 0) (.int .i64 1) (.int .i64 9) (.int .i64 0) (.int .i64 0) (Nat.le_trans hhi HL0.out) (Nat.le_trans hww1 HL0.out)
   have hA0:=put8_block (.int .i64 3) (.int .i64 2) (.int .i64 7) (.int .i64 0) (.int .i64 1) (.int .i64 9) (.int .i64 0) (.int .i64 0) HA0.out
   have hA1:=(put8_other (w:=Z3) (b:=ba) (k:=bb) (.int .i64 3) (.int .i64 2) (.int .i64 7) (.int .i64 0) (.int .i64 1) (.int .i64 9) (.int .i64 0) (.int .i64 0) (Ne.symm HN01.out)).trans HA1.out
   have hA2:=(put8_other (w:=Z3) (b:=ba) (k:=bc) (.int .i64 3) (.int .i64 2) (.int .i64 7) (.int .i64 0) (.int .i64 1) (.int .i64 9) (.int .i64 0) (.int .i64 0) (Ne.symm HN02.out)).trans HA2.out
   rw [put8] at hE1 hB1 hA0 hA1 hA2
   have HY:=Lib.hid (And.intro hE1 (And.intro hB1 (And.intro hA0 (And.intro hA1 (hA2)))))
   clear hE1 hB1 hA0 hA1 hA2 HE HB HA0 HA1 HA2
   go_wp2
   clear k0 k1 k2 k3 k4 k5 k6 k7 kz kl
   obtain ⟨hE1,hB1,hA0,hA1,hA2⟩:=HY.out
   clear HY
   generalize (World.setCell _ (⟨ba,7,none⟩ : Addr) _) = Z4 at hE1 hB1 hA0 hA1 hA2 ⊢
   refine mixQ_mk (over_of hE1) ?_
   have HE:=Lib.hid hE1
   have HB:=Lib.hid hB1
   have HA0:=Lib.hid hA0
   have HA1:=Lib.hid hA1
   have HA2:=Lib.hid hA2
   clear hE1 hB1 hA0 hA1 hA2
   refine ways_act 10 (by kernel_rfl) ?_
   simp only [pickL,List.map_cons,List.map_nil,List.getD_cons_zero,List.getD_cons_succ]
   obtain ⟨k0,k1,k2,k3,k4,k5,k6,k7,kz,kl⟩:=eit_of HA1.out
   have hE1:=put8_ext (b:=bb) (.int .i64 3) (.int .i64 2) (.int .i64 7) (.int .i64 0) (.int .i64 1) (.int .i64 9) (.int .i64 0) (.int .i64 1) HE.out HL1.out
   have hB1:=HB.out.stored8n (b:=bb) (.int .i64 3) (.int .i64 2) (.int .i64 7) (.int .i64 0) (.int .i64 1) (.int .i64 9) (.int .i64 0) (.int .i64 1) (Nat.le_trans hhi HL1.out) (Nat.le_trans hww1 HL1.out)
   have hA1:=put8_block (.int .i64 3) (.int .i64 2) (.int .i64 7) (.int .i64 0) (.int .i64 1) (.int .i64 9) (.int .i64 0) (.int .i64 1) HA1.out
   have hA0:=(put8_other (w:=Z4) (b:=bb) (k:=ba) (.int .i64 3) (.int .i64 2) (.int .i64 7) (.int .i64 0) (.int .i64 1) (.int .i64 9) (.int .i64 0) (.int .i64 1) HN01.out).trans HA0.out
   have hA2:=(put8_other (w:=Z4) (b:=bb) (k:=bc) (.int .i64 3) (.int .i64 2) (.int .i64 7) (.int .i64 0) (.int .i64 1) (.int .i64 9) (.int .i64 0) (.int .i64 1) HN21.out).trans HA2.out
   rw [put8] at hE1 hB1 hA0 hA1 hA2
   have HY:=Lib.hid (And.intro hE1 (And.intro hB1 (And.intro hA0 (And.intro hA1 (hA2)))))
   clear hE1 hB1 hA0 hA1 hA2 HE HB HA0 HA1 HA2
   go_wp2
   clear k0 k1 k2 k3 k4 k5 k6 k7 kz kl
   obtain ⟨hE1,hB1,hA0,hA1,hA2⟩:=HY.out
   clear HY
   generalize (World.setCell _ (⟨bb,7,none⟩ : Addr) _) = Z5 at hE1 hB1 hA0 hA1 hA2 ⊢
   refine mixQ_mk (over_of hE1) ?_
   have HE:=Lib.hid hE1
   have HB:=Lib.hid hB1
   have HA0:=Lib.hid hA0
   have HA1:=Lib.hid hA1
   have HA2:=Lib.hid hA2
   clear hE1 hB1 hA0 hA1 hA2
   refine ways_act 11 (by kernel_rfl) ?_
   simp only [pickL,List.map_cons,List.map_nil,List.getD_cons_zero,List.getD_cons_succ]
   obtain ⟨k0,k1,k2,k3,k4,k5,k6,k7,kz,kl⟩:=eit_of HA2.out
   have hE1:=put8_ext (b:=bc) (.int .i64 3) (.int .i64 2) (.int .i64 7) (.int .i64 0) (.int .i64 1) (.int .i64 9) (.int .i64 1) (.int .i64 0) HE.out HL2.out
   have hB1:=HB.out.stored8n (b:=bc) (.int .i64 3) (.int .i64 2) (.int .i64 7) (.int .i64 0) (.int .i64 1) (.int .i64 9) (.int .i64 1) (.int .i64 0) (Nat.le_trans hhi HL2.out) (Nat.le_trans hww1 HL2.out)
   have hA2:=put8_block (.int .i64 3) (.int .i64 2) (.int .i64 7) (.int .i64 0) (.int .i64 1) (.int .i64 9) (.int .i64 1) (.int .i64 0) HA2.out
   have hA0:=(put8_other (w:=Z5) (b:=bc) (k:=ba) (.int .i64 3) (.int .i64 2) (.int .i64 7) (.int .i64 0) (.int .i64 1) (.int .i64 9) (.int .i64 1) (.int .i64 0) HN02.out).trans HA0.out
   have hA1:=(put8_other (w:=Z5) (b:=bc) (k:=bb) (.int .i64 3) (.int .i64 2) (.int .i64 7) (.int .i64 0) (.int .i64 1) (.int .i64 9) (.int .i64 1) (.int .i64 0) (Ne.symm HN21.out)).trans HA1.out
   rw [put8] at hE1 hB1 hA0 hA1 hA2
   have HY:=Lib.hid (And.intro hE1 (And.intro hB1 (And.intro hA0 (And.intro hA1 (hA2)))))
   clear hE1 hB1 hA0 hA1 hA2 HE HB HA0 HA1 HA2
   go_wp2
   clear k0 k1 k2 k3 k4 k5 k6 k7 kz kl
   obtain ⟨hE1,hB1,hA0,hA1,hA2⟩:=HY.out
   clear HY
   generalize (World.setCell _ (⟨bc,7,none⟩ : Addr) _) = Z6 at hE1 hB1 hA0 hA1 hA2 ⊢
   refine mixQ_mk (over_of hE1) ?_
   have HE:=Lib.hid hE1
   have HB:=Lib.hid hB1
   have HA0:=Lib.hid hA0
   have HA1:=Lib.hid hA1
   have HA2:=Lib.hid hA2
   clear hE1 hB1 hA0 hA1 hA2
   refine ways_end (by kernel_rfl) ?_
   exact HREST ba bb bc Z6 (((HB.out.add (b:=bc) (o:=.cells #[.int .i64 3,.int .i64 2,.int .i64 7,.int .i64 0,.int .i64 1,.int .i64 9,.int .i64 1,.int .i64 0] 82) (.inr (Nat.le_trans hhi HL2.out)) (Nat.le_trans hww1 HL2.out) HA2.out).add (b:=bb) (o:=.cells #[.int .i64 3,.int .i64 2,.int .i64 7,.int .i64 0,.int .i64 1,.int .i64 9,.int .i64 0,.int .i64 1] 82) (.inr (Nat.le_trans hhi HL1.out)) (Nat.le_trans hww1 HL1.out) HA1.out).add (b:=ba) (o:=.cells #[.int .i64 3,.int .i64 2,.int .i64 7,.int .i64 0,.int .i64 1,.int .i64 9,.int .i64 0,.int .i64 0] 82) (.inr (Nat.le_trans hhi HL0.out)) (Nat.le_trans hww1 HL0.out) HA0.out)
 ·simp only [pickL,List.map_cons,List.map_nil,List.getD_cons_zero,List.getD_cons_succ]
  go_wp2
  have hxa:=ext_alloc (.cells #[.int .i64 0,.int .i64 0,.int .i64 0,.int .i64 0,.int .i64 0,.int .i64 0,.int .i64 0,.int .i64 0] 82) (ext_refl Z0)
  have HE':=Lib.hid (ext_trans HE.out hxa)
  have HB':=Lib.hid (HB.out.ext hxa)
  have HA1:=Lib.hid (heap_at Z0 (.cells #[.int .i64 0,.int .i64 0,.int .i64 0,.int .i64 0,.int .i64 0,.int .i64 0,.int .i64 0,.int .i64 0] 82) Z0.heap.size rfl)
  have HL1:Hid (w1.heap.size ≤ Z0.heap.size):=Lib.hid HE.out.size
  clear hxa
  refine mixQ_mk (over_of HE'.out) ?_
  generalize Z0.alloc (.cells #[.int .i64 0,.int .i64 0,.int .i64 0,.int .i64 0,.int .i64 0,.int .i64 0,.int .i64 0,.int .i64 0] 82) = Z1 at HE' HB' HA1 ⊢
  generalize Z0.heap.size = bb at HA1 HL1 ⊢
  clear HE HB
  have HE:=HE'
  clear HE'
  have HB:=HB'
  clear HB'
  refine ways_fork 6 (by kernel_rfl) ?_ (ways_act 8 (by kernel_rfl) ?_)
  ·simp only [pickL,List.map_cons,List.map_nil,List.getD_cons_zero,List.getD_cons_succ]
   go_wp2
   have hxa:=ext_alloc (.cells #[.int .i64 0,.int .i64 0,.int .i64 0,.int .i64 0,.int .i64 0,.int .i64 0,.int .i64 0,.int .i64 0] 82) (ext_refl Z1)
   have HE':=Lib.hid (ext_trans HE.out hxa)
   have HB':=Lib.hid (HB.out.ext hxa)
   have HA0:=Lib.hid (heap_at Z1 (.cells #[.int .i64 0,.int .i64 0,.int .i64 0,.int .i64 0,.int .i64 0,.int .i64 0,.int .i64 0,.int .i64 0] 82) Z1.heap.size rfl)
   have HL0:Hid (w1.heap.size ≤ Z1.heap.size):=Lib.hid HE.out.size
   have HA1':=Lib.hid ((hxa.block _ (heap_lt HA1.out)).trans HA1.out)
   have HN10:Hid (bb ≠ Z1.heap.size):=Lib.hid (by have:=heap_lt HA1.out;omega)
   clear hxa
   refine mixQ_mk (over_of HE'.out) ?_
   generalize Z1.alloc (.cells #[.int .i64 0,.int .i64 0,.int .i64 0,.int .i64 0,.int .i64 0,.int .i64 0,.int .i64 0,.int .i64 0] 82) = Z2 at HE' HB' HA0 HA1' ⊢
   generalize Z1.heap.size = ba at HA0 HL0 HN10 ⊢
   clear HE HB HA1
   have HE:=HE'
   clear HE'
   have HB:=HB'
   clear HB'
   have HA1:=HA1'
   clear HA1'
   refine ways_act 8 (by kernel_rfl) ?_
   simp only [pickL,List.map_cons,List.map_nil,List.getD_cons_zero,List.getD_cons_succ]
   go_wp2
   have hxa:=ext_alloc (.cells #[.int .i64 0,.int .i64 0,.int .i64 0,.int .i64 0,.int .i64 0,.int .i64 0,.int .i64 0,.int .i64 0] 82) (ext_refl Z2)
   have HE':=Lib.hid (ext_trans HE.out hxa)
   have HB':=Lib.hid (HB.out.ext hxa)
   have HA2:=Lib.hid (heap_at Z2 (.cells #[.int .i64 0,.int .i64 0,.int .i64 0,.int .i64 0,.int .i64 0,.int .i64 0,.int .i64 0,.int .i64 0] 82) Z2.heap.size rfl)
   have HL2:Hid (w1.heap.size ≤ Z2.heap.size):=Lib.hid HE.out.size
   have HA1':=Lib.hid ((hxa.block _ (heap_lt HA1.out)).trans HA1.out)
   have HN12:Hid (bb ≠ Z2.heap.size):=Lib.hid (by have:=heap_lt HA1.out;omega)
   have HA0':=Lib.hid ((hxa.block _ (heap_lt HA0.out)).trans HA0.out)
   have HN02:Hid (ba ≠ Z2.heap.size):=Lib.hid (by have:=heap_lt HA0.out;omega)
   clear hxa
   refine mixQ_mk (over_of HE'.out) ?_
   generalize Z2.alloc (.cells #[.int .i64 0,.int .i64 0,.int .i64 0,.int .i64 0,.int .i64 0,.int .i64 0,.int .i64 0,.int .i64 0] 82) = Z3 at HE' HB' HA2 HA1' HA0' ⊢
   generalize Z2.heap.size = bc at HA2 HL2 HN12 HN02 ⊢
   clear HE HB HA1 HA0
   have HE:=HE'
   clear HE'
   have HB:=HB'
   clear HB'
   have HA1:=HA1'
   clear HA1'
   have HA0:=HA0'
   clear HA0'
   refine ways_act 9 (by kernel_rfl) ?_
   simp only [pickL,List.map_cons,List.map_nil,List.getD_cons_zero,List.getD_cons_succ]
   obtain ⟨k0,k1,k2,k3,k4,k5,k6,k7,kz,kl⟩:=eit_of HA0.out
   have hE1:=put8_ext (b:=ba) (.int .i64 3) (.int .i64 2) (.int .i64 7) (.int .i64 0) (.int .i64 1) (.int .i64 9) (.int .i64 0) (.int .i64 0) HE.out HL0.out
   have hB1:=HB.out.stored8n (b:=ba) (.int .i64 3) (.int .i64 2) (.int .i64 7) (.int .i64 0) (.int .i64 1) (.int .i64 9) (.int .i64 0) (.int .i64 0) (Nat.le_trans hhi HL0.out) (Nat.le_trans hww1 HL0.out)
   have hA0:=put8_block (.int .i64 3) (.int .i64 2) (.int .i64 7) (.int .i64 0) (.int .i64 1) (.int .i64 9) (.int .i64 0) (.int .i64 0) HA0.out
   have hA1:=(put8_other (w:=Z3) (b:=ba) (k:=bb) (.int .i64 3) (.int .i64 2) (.int .i64 7) (.int .i64 0) (.int .i64 1) (.int .i64 9) (.int .i64 0) (.int .i64 0) HN10.out).trans HA1.out
   have hA2:=(put8_other (w:=Z3) (b:=ba) (k:=bc) (.int .i64 3) (.int .i64 2) (.int .i64 7) (.int .i64 0) (.int .i64 1) (.int .i64 9) (.int .i64 0) (.int .i64 0) (Ne.symm HN02.out)).trans HA2.out
   rw [put8] at hE1 hB1 hA0 hA1 hA2
   have HY:=Lib.hid (And.intro hE1 (And.intro hB1 (And.intro hA0 (And.intro hA1 (hA2)))))
   clear hE1 hB1 hA0 hA1 hA2 HE HB HA0 HA1 HA2
   go_wp2
   clear k0 k1 k2 k3 k4 k5 k6 k7 kz kl
   obtain ⟨hE1,hB1,hA0,hA1,hA2⟩:=HY.out
   clear HY
   generalize (World.setCell _ (⟨ba,7,none⟩ : Addr) _) = Z4 at hE1 hB1 hA0 hA1 hA2 ⊢
   refine mixQ_mk (over_of hE1) ?_
   have HE:=Lib.hid hE1
   have HB:=Lib.hid hB1
   have HA0:=Lib.hid hA0
   have HA1:=Lib.hid hA1
   have HA2:=Lib.hid hA2
   clear hE1 hB1 hA0 hA1 hA2
   refine ways_act 10 (by kernel_rfl) ?_
   simp only [pickL,List.map_cons,List.map_nil,List.getD_cons_zero,List.getD_cons_succ]
   obtain ⟨k0,k1,k2,k3,k4,k5,k6,k7,kz,kl⟩:=eit_of HA1.out
   have hE1:=put8_ext (b:=bb) (.int .i64 3) (.int .i64 2) (.int .i64 7) (.int .i64 0) (.int .i64 1) (.int .i64 9) (.int .i64 0) (.int .i64 1) HE.out HL1.out
   have hB1:=HB.out.stored8n (b:=bb) (.int .i64 3) (.int .i64 2) (.int .i64 7) (.int .i64 0) (.int .i64 1) (.int .i64 9) (.int .i64 0) (.int .i64 1) (Nat.le_trans hhi HL1.out) (Nat.le_trans hww1 HL1.out)
   have hA1:=put8_block (.int .i64 3) (.int .i64 2) (.int .i64 7) (.int .i64 0) (.int .i64 1) (.int .i64 9) (.int .i64 0) (.int .i64 1) HA1.out
   have hA0:=(put8_other (w:=Z4) (b:=bb) (k:=ba) (.int .i64 3) (.int .i64 2) (.int .i64 7) (.int .i64 0) (.int .i64 1) (.int .i64 9) (.int .i64 0) (.int .i64 1) (Ne.symm HN10.out)).trans HA0.out
   have hA2:=(put8_other (w:=Z4) (b:=bb) (k:=bc) (.int .i64 3) (.int .i64 2) (.int .i64 7) (.int .i64 0) (.int .i64 1) (.int .i64 9) (.int .i64 0) (.int .i64 1) (Ne.symm HN12.out)).trans HA2.out
   rw [put8] at hE1 hB1 hA0 hA1 hA2
   have HY:=Lib.hid (And.intro hE1 (And.intro hB1 (And.intro hA0 (And.intro hA1 (hA2)))))
   clear hE1 hB1 hA0 hA1 hA2 HE HB HA0 HA1 HA2
   go_wp2
   clear k0 k1 k2 k3 k4 k5 k6 k7 kz kl
   obtain ⟨hE1,hB1,hA0,hA1,hA2⟩:=HY.out
   clear HY
   generalize (World.setCell _ (⟨bb,7,none⟩ : Addr) _) = Z5 at hE1 hB1 hA0 hA1 hA2 ⊢
   refine mixQ_mk (over_of hE1) ?_
   have HE:=Lib.hid hE1
   have HB:=Lib.hid hB1
   have HA0:=Lib.hid hA0
   have HA1:=Lib.hid hA1
   have HA2:=Lib.hid hA2
   clear hE1 hB1 hA0 hA1 hA2
   refine ways_act 11 (by kernel_rfl) ?_
   simp only [pickL,List.map_cons,List.map_nil,List.getD_cons_zero,List.getD_cons_succ]
   obtain ⟨k0,k1,k2,k3,k4,k5,k6,k7,kz,kl⟩:=eit_of HA2.out
   have hE1:=put8_ext (b:=bc) (.int .i64 3) (.int .i64 2) (.int .i64 7) (.int .i64 0) (.int .i64 1) (.int .i64 9) (.int .i64 1) (.int .i64 0) HE.out HL2.out
   have hB1:=HB.out.stored8n (b:=bc) (.int .i64 3) (.int .i64 2) (.int .i64 7) (.int .i64 0) (.int .i64 1) (.int .i64 9) (.int .i64 1) (.int .i64 0) (Nat.le_trans hhi HL2.out) (Nat.le_trans hww1 HL2.out)
   have hA2:=put8_block (.int .i64 3) (.int .i64 2) (.int .i64 7) (.int .i64 0) (.int .i64 1) (.int .i64 9) (.int .i64 1) (.int .i64 0) HA2.out
   have hA0:=(put8_other (w:=Z5) (b:=bc) (k:=ba) (.int .i64 3) (.int .i64 2) (.int .i64 7) (.int .i64 0) (.int .i64 1) (.int .i64 9) (.int .i64 1) (.int .i64 0) HN02.out).trans HA0.out
   have hA1:=(put8_other (w:=Z5) (b:=bc) (k:=bb) (.int .i64 3) (.int .i64 2) (.int .i64 7) (.int .i64 0) (.int .i64 1) (.int .i64 9) (.int .i64 1) (.int .i64 0) HN12.out).trans HA1.out
   rw [put8] at hE1 hB1 hA0 hA1 hA2
   have HY:=Lib.hid (And.intro hE1 (And.intro hB1 (And.intro hA0 (And.intro hA1 (hA2)))))
   clear hE1 hB1 hA0 hA1 hA2 HE HB HA0 HA1 HA2
   go_wp2
   clear k0 k1 k2 k3 k4 k5 k6 k7 kz kl
   obtain ⟨hE1,hB1,hA0,hA1,hA2⟩:=HY.out
   clear HY
   generalize (World.setCell _ (⟨bc,7,none⟩ : Addr) _) = Z6 at hE1 hB1 hA0 hA1 hA2 ⊢
   refine mixQ_mk (over_of hE1) ?_
   have HE:=Lib.hid hE1
   have HB:=Lib.hid hB1
   have HA0:=Lib.hid hA0
   have HA1:=Lib.hid hA1
   have HA2:=Lib.hid hA2
   clear hE1 hB1 hA0 hA1 hA2
   refine ways_end (by kernel_rfl) ?_
   exact HREST ba bb bc Z6 (((HB.out.add (b:=bc) (o:=.cells #[.int .i64 3,.int .i64 2,.int .i64 7,.int .i64 0,.int .i64 1,.int .i64 9,.int .i64 1,.int .i64 0] 82) (.inr (Nat.le_trans hhi HL2.out)) (Nat.le_trans hww1 HL2.out) HA2.out).add (b:=bb) (o:=.cells #[.int .i64 3,.int .i64 2,.int .i64 7,.int .i64 0,.int .i64 1,.int .i64 9,.int .i64 0,.int .i64 1] 82) (.inr (Nat.le_trans hhi HL1.out)) (Nat.le_trans hww1 HL1.out) HA1.out).add (b:=ba) (o:=.cells #[.int .i64 3,.int .i64 2,.int .i64 7,.int .i64 0,.int .i64 1,.int .i64 9,.int .i64 0,.int .i64 0] 82) (.inr (Nat.le_trans hhi HL0.out)) (Nat.le_trans hww1 HL0.out) HA0.out)
  ·simp only [pickL,List.map_cons,List.map_nil,List.getD_cons_zero,List.getD_cons_succ]
   go_wp2
   have hxa:=ext_alloc (.cells #[.int .i64 0,.int .i64 0,.int .i64 0,.int .i64 0,.int .i64 0,.int .i64 0,.int .i64 0,.int .i64 0] 82) (ext_refl Z1)
   have HE':=Lib.hid (ext_trans HE.out hxa)
   have HB':=Lib.hid (HB.out.ext hxa)
   have HA2:=Lib.hid (heap_at Z1 (.cells #[.int .i64 0,.int .i64 0,.int .i64 0,.int .i64 0,.int .i64 0,.int .i64 0,.int .i64 0,.int .i64 0] 82) Z1.heap.size rfl)
   have HL2:Hid (w1.heap.size ≤ Z1.heap.size):=Lib.hid HE.out.size
   have HA1':=Lib.hid ((hxa.block _ (heap_lt HA1.out)).trans HA1.out)
   have HN12:Hid (bb ≠ Z1.heap.size):=Lib.hid (by have:=heap_lt HA1.out;omega)
   clear hxa
   refine mixQ_mk (over_of HE'.out) ?_
   generalize Z1.alloc (.cells #[.int .i64 0,.int .i64 0,.int .i64 0,.int .i64 0,.int .i64 0,.int .i64 0,.int .i64 0,.int .i64 0] 82) = Z2 at HE' HB' HA2 HA1' ⊢
   generalize Z1.heap.size = bc at HA2 HL2 HN12 ⊢
   clear HE HB HA1
   have HE:=HE'
   clear HE'
   have HB:=HB'
   clear HB'
   have HA1:=HA1'
   clear HA1'
   refine ways_act 6 (by kernel_rfl) ?_
   simp only [pickL,List.map_cons,List.map_nil,List.getD_cons_zero,List.getD_cons_succ]
   go_wp2
   have hxa:=ext_alloc (.cells #[.int .i64 0,.int .i64 0,.int .i64 0,.int .i64 0,.int .i64 0,.int .i64 0,.int .i64 0,.int .i64 0] 82) (ext_refl Z2)
   have HE':=Lib.hid (ext_trans HE.out hxa)
   have HB':=Lib.hid (HB.out.ext hxa)
   have HA0:=Lib.hid (heap_at Z2 (.cells #[.int .i64 0,.int .i64 0,.int .i64 0,.int .i64 0,.int .i64 0,.int .i64 0,.int .i64 0,.int .i64 0] 82) Z2.heap.size rfl)
   have HL0:Hid (w1.heap.size ≤ Z2.heap.size):=Lib.hid HE.out.size
   have HA1':=Lib.hid ((hxa.block _ (heap_lt HA1.out)).trans HA1.out)
   have HN10:Hid (bb ≠ Z2.heap.size):=Lib.hid (by have:=heap_lt HA1.out;omega)
   have HA2':=Lib.hid ((hxa.block _ (heap_lt HA2.out)).trans HA2.out)
   have HN20:Hid (bc ≠ Z2.heap.size):=Lib.hid (by have:=heap_lt HA2.out;omega)
   clear hxa
   refine mixQ_mk (over_of HE'.out) ?_
   generalize Z2.alloc (.cells #[.int .i64 0,.int .i64 0,.int .i64 0,.int .i64 0,.int .i64 0,.int .i64 0,.int .i64 0,.int .i64 0] 82) = Z3 at HE' HB' HA0 HA1' HA2' ⊢
   generalize Z2.heap.size = ba at HA0 HL0 HN10 HN20 ⊢
   clear HE HB HA1 HA2
   have HE:=HE'
   clear HE'
   have HB:=HB'
   clear HB'
   have HA1:=HA1'
   clear HA1'
   have HA2:=HA2'
   clear HA2'
   refine ways_act 9 (by kernel_rfl) ?_
   simp only [pickL,List.map_cons,List.map_nil,List.getD_cons_zero,List.getD_cons_succ]
   obtain ⟨k0,k1,k2,k3,k4,k5,k6,k7,kz,kl⟩:=eit_of HA0.out
   have hE1:=put8_ext (b:=ba) (.int .i64 3) (.int .i64 2) (.int .i64 7) (.int .i64 0) (.int .i64 1) (.int .i64 9) (.int .i64 0) (.int .i64 0) HE.out HL0.out
   have hB1:=HB.out.stored8n (b:=ba) (.int .i64 3) (.int .i64 2) (.int .i64 7) (.int .i64 0) (.int .i64 1) (.int .i64 9) (.int .i64 0) (.int .i64 0) (Nat.le_trans hhi HL0.out) (Nat.le_trans hww1 HL0.out)
   have hA0:=put8_block (.int .i64 3) (.int .i64 2) (.int .i64 7) (.int .i64 0) (.int .i64 1) (.int .i64 9) (.int .i64 0) (.int .i64 0) HA0.out
   have hA1:=(put8_other (w:=Z3) (b:=ba) (k:=bb) (.int .i64 3) (.int .i64 2) (.int .i64 7) (.int .i64 0) (.int .i64 1) (.int .i64 9) (.int .i64 0) (.int .i64 0) HN10.out).trans HA1.out
   have hA2:=(put8_other (w:=Z3) (b:=ba) (k:=bc) (.int .i64 3) (.int .i64 2) (.int .i64 7) (.int .i64 0) (.int .i64 1) (.int .i64 9) (.int .i64 0) (.int .i64 0) HN20.out).trans HA2.out
   rw [put8] at hE1 hB1 hA0 hA1 hA2
   have HY:=Lib.hid (And.intro hE1 (And.intro hB1 (And.intro hA0 (And.intro hA1 (hA2)))))
   clear hE1 hB1 hA0 hA1 hA2 HE HB HA0 HA1 HA2
   go_wp2
   clear k0 k1 k2 k3 k4 k5 k6 k7 kz kl
   obtain ⟨hE1,hB1,hA0,hA1,hA2⟩:=HY.out
   clear HY
   generalize (World.setCell _ (⟨ba,7,none⟩ : Addr) _) = Z4 at hE1 hB1 hA0 hA1 hA2 ⊢
   refine mixQ_mk (over_of hE1) ?_
   have HE:=Lib.hid hE1
   have HB:=Lib.hid hB1
   have HA0:=Lib.hid hA0
   have HA1:=Lib.hid hA1
   have HA2:=Lib.hid hA2
   clear hE1 hB1 hA0 hA1 hA2
   refine ways_act 10 (by kernel_rfl) ?_
   simp only [pickL,List.map_cons,List.map_nil,List.getD_cons_zero,List.getD_cons_succ]
   obtain ⟨k0,k1,k2,k3,k4,k5,k6,k7,kz,kl⟩:=eit_of HA1.out
   have hE1:=put8_ext (b:=bb) (.int .i64 3) (.int .i64 2) (.int .i64 7) (.int .i64 0) (.int .i64 1) (.int .i64 9) (.int .i64 0) (.int .i64 1) HE.out HL1.out
   have hB1:=HB.out.stored8n (b:=bb) (.int .i64 3) (.int .i64 2) (.int .i64 7) (.int .i64 0) (.int .i64 1) (.int .i64 9) (.int .i64 0) (.int .i64 1) (Nat.le_trans hhi HL1.out) (Nat.le_trans hww1 HL1.out)
   have hA1:=put8_block (.int .i64 3) (.int .i64 2) (.int .i64 7) (.int .i64 0) (.int .i64 1) (.int .i64 9) (.int .i64 0) (.int .i64 1) HA1.out
   have hA0:=(put8_other (w:=Z4) (b:=bb) (k:=ba) (.int .i64 3) (.int .i64 2) (.int .i64 7) (.int .i64 0) (.int .i64 1) (.int .i64 9) (.int .i64 0) (.int .i64 1) (Ne.symm HN10.out)).trans HA0.out
   have hA2:=(put8_other (w:=Z4) (b:=bb) (k:=bc) (.int .i64 3) (.int .i64 2) (.int .i64 7) (.int .i64 0) (.int .i64 1) (.int .i64 9) (.int .i64 0) (.int .i64 1) (Ne.symm HN12.out)).trans HA2.out
   rw [put8] at hE1 hB1 hA0 hA1 hA2
   have HY:=Lib.hid (And.intro hE1 (And.intro hB1 (And.intro hA0 (And.intro hA1 (hA2)))))
   clear hE1 hB1 hA0 hA1 hA2 HE HB HA0 HA1 HA2
   go_wp2
   clear k0 k1 k2 k3 k4 k5 k6 k7 kz kl
   obtain ⟨hE1,hB1,hA0,hA1,hA2⟩:=HY.out
   clear HY
   generalize (World.setCell _ (⟨bb,7,none⟩ : Addr) _) = Z5 at hE1 hB1 hA0 hA1 hA2 ⊢
   refine mixQ_mk (over_of hE1) ?_
   have HE:=Lib.hid hE1
   have HB:=Lib.hid hB1
   have HA0:=Lib.hid hA0
   have HA1:=Lib.hid hA1
   have HA2:=Lib.hid hA2
   clear hE1 hB1 hA0 hA1 hA2
   refine ways_act 11 (by kernel_rfl) ?_
   simp only [pickL,List.map_cons,List.map_nil,List.getD_cons_zero,List.getD_cons_succ]
   obtain ⟨k0,k1,k2,k3,k4,k5,k6,k7,kz,kl⟩:=eit_of HA2.out
   have hE1:=put8_ext (b:=bc) (.int .i64 3) (.int .i64 2) (.int .i64 7) (.int .i64 0) (.int .i64 1) (.int .i64 9) (.int .i64 1) (.int .i64 0) HE.out HL2.out
   have hB1:=HB.out.stored8n (b:=bc) (.int .i64 3) (.int .i64 2) (.int .i64 7) (.int .i64 0) (.int .i64 1) (.int .i64 9) (.int .i64 1) (.int .i64 0) (Nat.le_trans hhi HL2.out) (Nat.le_trans hww1 HL2.out)
   have hA2:=put8_block (.int .i64 3) (.int .i64 2) (.int .i64 7) (.int .i64 0) (.int .i64 1) (.int .i64 9) (.int .i64 1) (.int .i64 0) HA2.out
   have hA0:=(put8_other (w:=Z5) (b:=bc) (k:=ba) (.int .i64 3) (.int .i64 2) (.int .i64 7) (.int .i64 0) (.int .i64 1) (.int .i64 9) (.int .i64 1) (.int .i64 0) (Ne.symm HN20.out)).trans HA0.out
   have hA1:=(put8_other (w:=Z5) (b:=bc) (k:=bb) (.int .i64 3) (.int .i64 2) (.int .i64 7) (.int .i64 0) (.int .i64 1) (.int .i64 9) (.int .i64 1) (.int .i64 0) HN12.out).trans HA1.out
   rw [put8] at hE1 hB1 hA0 hA1 hA2
   have HY:=Lib.hid (And.intro hE1 (And.intro hB1 (And.intro hA0 (And.intro hA1 (hA2)))))
   clear hE1 hB1 hA0 hA1 hA2 HE HB HA0 HA1 HA2
   go_wp2
   clear k0 k1 k2 k3 k4 k5 k6 k7 kz kl
   obtain ⟨hE1,hB1,hA0,hA1,hA2⟩:=HY.out
   clear HY
   generalize (World.setCell _ (⟨bc,7,none⟩ : Addr) _) = Z6 at hE1 hB1 hA0 hA1 hA2 ⊢
   refine mixQ_mk (over_of hE1) ?_
   have HE:=Lib.hid hE1
   have HB:=Lib.hid hB1
   have HA0:=Lib.hid hA0
   have HA1:=Lib.hid hA1
   have HA2:=Lib.hid hA2
   clear hE1 hB1 hA0 hA1 hA2
   refine ways_end (by kernel_rfl) ?_
   exact HREST ba bb bc Z6 (((HB.out.add (b:=bc) (o:=.cells #[.int .i64 3,.int .i64 2,.int .i64 7,.int .i64 0,.int .i64 1,.int .i64 9,.int .i64 1,.int .i64 0] 82) (.inr (Nat.le_trans hhi HL2.out)) (Nat.le_trans hww1 HL2.out) HA2.out).add (b:=bb) (o:=.cells #[.int .i64 3,.int .i64 2,.int .i64 7,.int .i64 0,.int .i64 1,.int .i64 9,.int .i64 0,.int .i64 1] 82) (.inr (Nat.le_trans hhi HL1.out)) (Nat.le_trans hww1 HL1.out) HA1.out).add (b:=ba) (o:=.cells #[.int .i64 3,.int .i64 2,.int .i64 7,.int .i64 0,.int .i64 1,.int .i64 9,.int .i64 0,.int .i64 0] 82) (.inr (Nat.le_trans hhi HL0.out)) (Nat.le_trans hww1 HL0.out) HA0.out)
 ·simp only [pickL,List.map_cons,List.map_nil,List.getD_cons_zero,List.getD_cons_succ]
  go_wp2
  have hxa:=ext_alloc (.cells #[.int .i64 0,.int .i64 0,.int .i64 0,.int .i64 0,.int .i64 0,.int .i64 0,.int .i64 0,.int .i64 0] 82) (ext_refl Z0)
  have HE':=Lib.hid (ext_trans HE.out hxa)
  have HB':=Lib.hid (HB.out.ext hxa)
  have HA2:=Lib.hid (heap_at Z0 (.cells #[.int .i64 0,.int .i64 0,.int .i64 0,.int .i64 0,.int .i64 0,.int .i64 0,.int .i64 0,.int .i64 0] 82) Z0.heap.size rfl)
  have HL2:Hid (w1.heap.size ≤ Z0.heap.size):=Lib.hid HE.out.size
  clear hxa
  refine mixQ_mk (over_of HE'.out) ?_
  generalize Z0.alloc (.cells #[.int .i64 0,.int .i64 0,.int .i64 0,.int .i64 0,.int .i64 0,.int .i64 0,.int .i64 0,.int .i64 0] 82) = Z1 at HE' HB' HA2 ⊢
  generalize Z0.heap.size = bc at HA2 HL2 ⊢
  clear HE HB
  have HE:=HE'
  clear HE'
  have HB:=HB'
  clear HB'
  refine ways_fork 6 (by kernel_rfl) ?_ (ways_act 7 (by kernel_rfl) ?_)
  ·simp only [pickL,List.map_cons,List.map_nil,List.getD_cons_zero,List.getD_cons_succ]
   go_wp2
   have hxa:=ext_alloc (.cells #[.int .i64 0,.int .i64 0,.int .i64 0,.int .i64 0,.int .i64 0,.int .i64 0,.int .i64 0,.int .i64 0] 82) (ext_refl Z1)
   have HE':=Lib.hid (ext_trans HE.out hxa)
   have HB':=Lib.hid (HB.out.ext hxa)
   have HA0:=Lib.hid (heap_at Z1 (.cells #[.int .i64 0,.int .i64 0,.int .i64 0,.int .i64 0,.int .i64 0,.int .i64 0,.int .i64 0,.int .i64 0] 82) Z1.heap.size rfl)
   have HL0:Hid (w1.heap.size ≤ Z1.heap.size):=Lib.hid HE.out.size
   have HA2':=Lib.hid ((hxa.block _ (heap_lt HA2.out)).trans HA2.out)
   have HN20:Hid (bc ≠ Z1.heap.size):=Lib.hid (by have:=heap_lt HA2.out;omega)
   clear hxa
   refine mixQ_mk (over_of HE'.out) ?_
   generalize Z1.alloc (.cells #[.int .i64 0,.int .i64 0,.int .i64 0,.int .i64 0,.int .i64 0,.int .i64 0,.int .i64 0,.int .i64 0] 82) = Z2 at HE' HB' HA0 HA2' ⊢
   generalize Z1.heap.size = ba at HA0 HL0 HN20 ⊢
   clear HE HB HA2
   have HE:=HE'
   clear HE'
   have HB:=HB'
   clear HB'
   have HA2:=HA2'
   clear HA2'
   refine ways_act 7 (by kernel_rfl) ?_
   simp only [pickL,List.map_cons,List.map_nil,List.getD_cons_zero,List.getD_cons_succ]
   go_wp2
   have hxa:=ext_alloc (.cells #[.int .i64 0,.int .i64 0,.int .i64 0,.int .i64 0,.int .i64 0,.int .i64 0,.int .i64 0,.int .i64 0] 82) (ext_refl Z2)
   have HE':=Lib.hid (ext_trans HE.out hxa)
   have HB':=Lib.hid (HB.out.ext hxa)
   have HA1:=Lib.hid (heap_at Z2 (.cells #[.int .i64 0,.int .i64 0,.int .i64 0,.int .i64 0,.int .i64 0,.int .i64 0,.int .i64 0,.int .i64 0] 82) Z2.heap.size rfl)
   have HL1:Hid (w1.heap.size ≤ Z2.heap.size):=Lib.hid HE.out.size
   have HA2':=Lib.hid ((hxa.block _ (heap_lt HA2.out)).trans HA2.out)
   have HN21:Hid (bc ≠ Z2.heap.size):=Lib.hid (by have:=heap_lt HA2.out;omega)
   have HA0':=Lib.hid ((hxa.block _ (heap_lt HA0.out)).trans HA0.out)
   have HN01:Hid (ba ≠ Z2.heap.size):=Lib.hid (by have:=heap_lt HA0.out;omega)
   clear hxa
   refine mixQ_mk (over_of HE'.out) ?_
   generalize Z2.alloc (.cells #[.int .i64 0,.int .i64 0,.int .i64 0,.int .i64 0,.int .i64 0,.int .i64 0,.int .i64 0,.int .i64 0] 82) = Z3 at HE' HB' HA1 HA2' HA0' ⊢
   generalize Z2.heap.size = bb at HA1 HL1 HN21 HN01 ⊢
   clear HE HB HA2 HA0
   have HE:=HE'
   clear HE'
   have HB:=HB'
   clear HB'
   have HA2:=HA2'
   clear HA2'
   have HA0:=HA0'
   clear HA0'
   refine ways_act 9 (by kernel_rfl) ?_
   simp only [pickL,List.map_cons,List.map_nil,List.getD_cons_zero,List.getD_cons_succ]
   obtain ⟨k0,k1,k2,k3,k4,k5,k6,k7,kz,kl⟩:=eit_of HA0.out
   have hE1:=put8_ext (b:=ba) (.int .i64 3) (.int .i64 2) (.int .i64 7) (.int .i64 0) (.int .i64 1) (.int .i64 9) (.int .i64 0) (.int .i64 0) HE.out HL0.out
   have hB1:=HB.out.stored8n (b:=ba) (.int .i64 3) (.int .i64 2) (.int .i64 7) (.int .i64 0) (.int .i64 1) (.int .i64 9) (.int .i64 0) (.int .i64 0) (Nat.le_trans hhi HL0.out) (Nat.le_trans hww1 HL0.out)
   have hA0:=put8_block (.int .i64 3) (.int .i64 2) (.int .i64 7) (.int .i64 0) (.int .i64 1) (.int .i64 9) (.int .i64 0) (.int .i64 0) HA0.out
   have hA1:=(put8_other (w:=Z3) (b:=ba) (k:=bb) (.int .i64 3) (.int .i64 2) (.int .i64 7) (.int .i64 0) (.int .i64 1) (.int .i64 9) (.int .i64 0) (.int .i64 0) (Ne.symm HN01.out)).trans HA1.out
   have hA2:=(put8_other (w:=Z3) (b:=ba) (k:=bc) (.int .i64 3) (.int .i64 2) (.int .i64 7) (.int .i64 0) (.int .i64 1) (.int .i64 9) (.int .i64 0) (.int .i64 0) HN20.out).trans HA2.out
   rw [put8] at hE1 hB1 hA0 hA1 hA2
   have HY:=Lib.hid (And.intro hE1 (And.intro hB1 (And.intro hA0 (And.intro hA1 (hA2)))))
   clear hE1 hB1 hA0 hA1 hA2 HE HB HA0 HA1 HA2
   go_wp2
   clear k0 k1 k2 k3 k4 k5 k6 k7 kz kl
   obtain ⟨hE1,hB1,hA0,hA1,hA2⟩:=HY.out
   clear HY
   generalize (World.setCell _ (⟨ba,7,none⟩ : Addr) _) = Z4 at hE1 hB1 hA0 hA1 hA2 ⊢
   refine mixQ_mk (over_of hE1) ?_
   have HE:=Lib.hid hE1
   have HB:=Lib.hid hB1
   have HA0:=Lib.hid hA0
   have HA1:=Lib.hid hA1
   have HA2:=Lib.hid hA2
   clear hE1 hB1 hA0 hA1 hA2
   refine ways_act 10 (by kernel_rfl) ?_
   simp only [pickL,List.map_cons,List.map_nil,List.getD_cons_zero,List.getD_cons_succ]
   obtain ⟨k0,k1,k2,k3,k4,k5,k6,k7,kz,kl⟩:=eit_of HA1.out
   have hE1:=put8_ext (b:=bb) (.int .i64 3) (.int .i64 2) (.int .i64 7) (.int .i64 0) (.int .i64 1) (.int .i64 9) (.int .i64 0) (.int .i64 1) HE.out HL1.out
   have hB1:=HB.out.stored8n (b:=bb) (.int .i64 3) (.int .i64 2) (.int .i64 7) (.int .i64 0) (.int .i64 1) (.int .i64 9) (.int .i64 0) (.int .i64 1) (Nat.le_trans hhi HL1.out) (Nat.le_trans hww1 HL1.out)
   have hA1:=put8_block (.int .i64 3) (.int .i64 2) (.int .i64 7) (.int .i64 0) (.int .i64 1) (.int .i64 9) (.int .i64 0) (.int .i64 1) HA1.out
   have hA0:=(put8_other (w:=Z4) (b:=bb) (k:=ba) (.int .i64 3) (.int .i64 2) (.int .i64 7) (.int .i64 0) (.int .i64 1) (.int .i64 9) (.int .i64 0) (.int .i64 1) HN01.out).trans HA0.out
   have hA2:=(put8_other (w:=Z4) (b:=bb) (k:=bc) (.int .i64 3) (.int .i64 2) (.int .i64 7) (.int .i64 0) (.int .i64 1) (.int .i64 9) (.int .i64 0) (.int .i64 1) HN21.out).trans HA2.out
   rw [put8] at hE1 hB1 hA0 hA1 hA2
   have HY:=Lib.hid (And.intro hE1 (And.intro hB1 (And.intro hA0 (And.intro hA1 (hA2)))))
   clear hE1 hB1 hA0 hA1 hA2 HE HB HA0 HA1 HA2
   go_wp2
   clear k0 k1 k2 k3 k4 k5 k6 k7 kz kl
   obtain ⟨hE1,hB1,hA0,hA1,hA2⟩:=HY.out
   clear HY
   generalize (World.setCell _ (⟨bb,7,none⟩ : Addr) _) = Z5 at hE1 hB1 hA0 hA1 hA2 ⊢
   refine mixQ_mk (over_of hE1) ?_
   have HE:=Lib.hid hE1
   have HB:=Lib.hid hB1
   have HA0:=Lib.hid hA0
   have HA1:=Lib.hid hA1
   have HA2:=Lib.hid hA2
   clear hE1 hB1 hA0 hA1 hA2
   refine ways_act 11 (by kernel_rfl) ?_
   simp only [pickL,List.map_cons,List.map_nil,List.getD_cons_zero,List.getD_cons_succ]
   obtain ⟨k0,k1,k2,k3,k4,k5,k6,k7,kz,kl⟩:=eit_of HA2.out
   have hE1:=put8_ext (b:=bc) (.int .i64 3) (.int .i64 2) (.int .i64 7) (.int .i64 0) (.int .i64 1) (.int .i64 9) (.int .i64 1) (.int .i64 0) HE.out HL2.out
   have hB1:=HB.out.stored8n (b:=bc) (.int .i64 3) (.int .i64 2) (.int .i64 7) (.int .i64 0) (.int .i64 1) (.int .i64 9) (.int .i64 1) (.int .i64 0) (Nat.le_trans hhi HL2.out) (Nat.le_trans hww1 HL2.out)
   have hA2:=put8_block (.int .i64 3) (.int .i64 2) (.int .i64 7) (.int .i64 0) (.int .i64 1) (.int .i64 9) (.int .i64 1) (.int .i64 0) HA2.out
   have hA0:=(put8_other (w:=Z5) (b:=bc) (k:=ba) (.int .i64 3) (.int .i64 2) (.int .i64 7) (.int .i64 0) (.int .i64 1) (.int .i64 9) (.int .i64 1) (.int .i64 0) (Ne.symm HN20.out)).trans HA0.out
   have hA1:=(put8_other (w:=Z5) (b:=bc) (k:=bb) (.int .i64 3) (.int .i64 2) (.int .i64 7) (.int .i64 0) (.int .i64 1) (.int .i64 9) (.int .i64 1) (.int .i64 0) (Ne.symm HN21.out)).trans HA1.out
   rw [put8] at hE1 hB1 hA0 hA1 hA2
   have HY:=Lib.hid (And.intro hE1 (And.intro hB1 (And.intro hA0 (And.intro hA1 (hA2)))))
   clear hE1 hB1 hA0 hA1 hA2 HE HB HA0 HA1 HA2
   go_wp2
   clear k0 k1 k2 k3 k4 k5 k6 k7 kz kl
   obtain ⟨hE1,hB1,hA0,hA1,hA2⟩:=HY.out
   clear HY
   generalize (World.setCell _ (⟨bc,7,none⟩ : Addr) _) = Z6 at hE1 hB1 hA0 hA1 hA2 ⊢
   refine mixQ_mk (over_of hE1) ?_
   have HE:=Lib.hid hE1
   have HB:=Lib.hid hB1
   have HA0:=Lib.hid hA0
   have HA1:=Lib.hid hA1
   have HA2:=Lib.hid hA2
   clear hE1 hB1 hA0 hA1 hA2
   refine ways_end (by kernel_rfl) ?_
   exact HREST ba bb bc Z6 (((HB.out.add (b:=bc) (o:=.cells #[.int .i64 3,.int .i64 2,.int .i64 7,.int .i64 0,.int .i64 1,.int .i64 9,.int .i64 1,.int .i64 0] 82) (.inr (Nat.le_trans hhi HL2.out)) (Nat.le_trans hww1 HL2.out) HA2.out).add (b:=bb) (o:=.cells #[.int .i64 3,.int .i64 2,.int .i64 7,.int .i64 0,.int .i64 1,.int .i64 9,.int .i64 0,.int .i64 1] 82) (.inr (Nat.le_trans hhi HL1.out)) (Nat.le_trans hww1 HL1.out) HA1.out).add (b:=ba) (o:=.cells #[.int .i64 3,.int .i64 2,.int .i64 7,.int .i64 0,.int .i64 1,.int .i64 9,.int .i64 0,.int .i64 0] 82) (.inr (Nat.le_trans hhi HL0.out)) (Nat.le_trans hww1 HL0.out) HA0.out)
  ·simp only [pickL,List.map_cons,List.map_nil,List.getD_cons_zero,List.getD_cons_succ]
   go_wp2
   have hxa:=ext_alloc (.cells #[.int .i64 0,.int .i64 0,.int .i64 0,.int .i64 0,.int .i64 0,.int .i64 0,.int .i64 0,.int .i64 0] 82) (ext_refl Z1)
   have HE':=Lib.hid (ext_trans HE.out hxa)
   have HB':=Lib.hid (HB.out.ext hxa)
   have HA1:=Lib.hid (heap_at Z1 (.cells #[.int .i64 0,.int .i64 0,.int .i64 0,.int .i64 0,.int .i64 0,.int .i64 0,.int .i64 0,.int .i64 0] 82) Z1.heap.size rfl)
   have HL1:Hid (w1.heap.size ≤ Z1.heap.size):=Lib.hid HE.out.size
   have HA2':=Lib.hid ((hxa.block _ (heap_lt HA2.out)).trans HA2.out)
   have HN21:Hid (bc ≠ Z1.heap.size):=Lib.hid (by have:=heap_lt HA2.out;omega)
   clear hxa
   refine mixQ_mk (over_of HE'.out) ?_
   generalize Z1.alloc (.cells #[.int .i64 0,.int .i64 0,.int .i64 0,.int .i64 0,.int .i64 0,.int .i64 0,.int .i64 0,.int .i64 0] 82) = Z2 at HE' HB' HA1 HA2' ⊢
   generalize Z1.heap.size = bb at HA1 HL1 HN21 ⊢
   clear HE HB HA2
   have HE:=HE'
   clear HE'
   have HB:=HB'
   clear HB'
   have HA2:=HA2'
   clear HA2'
   refine ways_act 6 (by kernel_rfl) ?_
   simp only [pickL,List.map_cons,List.map_nil,List.getD_cons_zero,List.getD_cons_succ]
   go_wp2
   have hxa:=ext_alloc (.cells #[.int .i64 0,.int .i64 0,.int .i64 0,.int .i64 0,.int .i64 0,.int .i64 0,.int .i64 0,.int .i64 0] 82) (ext_refl Z2)
   have HE':=Lib.hid (ext_trans HE.out hxa)
   have HB':=Lib.hid (HB.out.ext hxa)
   have HA0:=Lib.hid (heap_at Z2 (.cells #[.int .i64 0,.int .i64 0,.int .i64 0,.int .i64 0,.int .i64 0,.int .i64 0,.int .i64 0,.int .i64 0] 82) Z2.heap.size rfl)
   have HL0:Hid (w1.heap.size ≤ Z2.heap.size):=Lib.hid HE.out.size
   have HA2':=Lib.hid ((hxa.block _ (heap_lt HA2.out)).trans HA2.out)
   have HN20:Hid (bc ≠ Z2.heap.size):=Lib.hid (by have:=heap_lt HA2.out;omega)
   have HA1':=Lib.hid ((hxa.block _ (heap_lt HA1.out)).trans HA1.out)
   have HN10:Hid (bb ≠ Z2.heap.size):=Lib.hid (by have:=heap_lt HA1.out;omega)
   clear hxa
   refine mixQ_mk (over_of HE'.out) ?_
   generalize Z2.alloc (.cells #[.int .i64 0,.int .i64 0,.int .i64 0,.int .i64 0,.int .i64 0,.int .i64 0,.int .i64 0,.int .i64 0] 82) = Z3 at HE' HB' HA0 HA2' HA1' ⊢
   generalize Z2.heap.size = ba at HA0 HL0 HN20 HN10 ⊢
   clear HE HB HA2 HA1
   have HE:=HE'
   clear HE'
   have HB:=HB'
   clear HB'
   have HA2:=HA2'
   clear HA2'
   have HA1:=HA1'
   clear HA1'
   refine ways_act 9 (by kernel_rfl) ?_
   simp only [pickL,List.map_cons,List.map_nil,List.getD_cons_zero,List.getD_cons_succ]
   obtain ⟨k0,k1,k2,k3,k4,k5,k6,k7,kz,kl⟩:=eit_of HA0.out
   have hE1:=put8_ext (b:=ba) (.int .i64 3) (.int .i64 2) (.int .i64 7) (.int .i64 0) (.int .i64 1) (.int .i64 9) (.int .i64 0) (.int .i64 0) HE.out HL0.out
   have hB1:=HB.out.stored8n (b:=ba) (.int .i64 3) (.int .i64 2) (.int .i64 7) (.int .i64 0) (.int .i64 1) (.int .i64 9) (.int .i64 0) (.int .i64 0) (Nat.le_trans hhi HL0.out) (Nat.le_trans hww1 HL0.out)
   have hA0:=put8_block (.int .i64 3) (.int .i64 2) (.int .i64 7) (.int .i64 0) (.int .i64 1) (.int .i64 9) (.int .i64 0) (.int .i64 0) HA0.out
   have hA1:=(put8_other (w:=Z3) (b:=ba) (k:=bb) (.int .i64 3) (.int .i64 2) (.int .i64 7) (.int .i64 0) (.int .i64 1) (.int .i64 9) (.int .i64 0) (.int .i64 0) HN10.out).trans HA1.out
   have hA2:=(put8_other (w:=Z3) (b:=ba) (k:=bc) (.int .i64 3) (.int .i64 2) (.int .i64 7) (.int .i64 0) (.int .i64 1) (.int .i64 9) (.int .i64 0) (.int .i64 0) HN20.out).trans HA2.out
   rw [put8] at hE1 hB1 hA0 hA1 hA2
   have HY:=Lib.hid (And.intro hE1 (And.intro hB1 (And.intro hA0 (And.intro hA1 (hA2)))))
   clear hE1 hB1 hA0 hA1 hA2 HE HB HA0 HA1 HA2
   go_wp2
   clear k0 k1 k2 k3 k4 k5 k6 k7 kz kl
   obtain ⟨hE1,hB1,hA0,hA1,hA2⟩:=HY.out
   clear HY
   generalize (World.setCell _ (⟨ba,7,none⟩ : Addr) _) = Z4 at hE1 hB1 hA0 hA1 hA2 ⊢
   refine mixQ_mk (over_of hE1) ?_
   have HE:=Lib.hid hE1
   have HB:=Lib.hid hB1
   have HA0:=Lib.hid hA0
   have HA1:=Lib.hid hA1
   have HA2:=Lib.hid hA2
   clear hE1 hB1 hA0 hA1 hA2
   refine ways_act 10 (by kernel_rfl) ?_
   simp only [pickL,List.map_cons,List.map_nil,List.getD_cons_zero,List.getD_cons_succ]
   obtain ⟨k0,k1,k2,k3,k4,k5,k6,k7,kz,kl⟩:=eit_of HA1.out
   have hE1:=put8_ext (b:=bb) (.int .i64 3) (.int .i64 2) (.int .i64 7) (.int .i64 0) (.int .i64 1) (.int .i64 9) (.int .i64 0) (.int .i64 1) HE.out HL1.out
   have hB1:=HB.out.stored8n (b:=bb) (.int .i64 3) (.int .i64 2) (.int .i64 7) (.int .i64 0) (.int .i64 1) (.int .i64 9) (.int .i64 0) (.int .i64 1) (Nat.le_trans hhi HL1.out) (Nat.le_trans hww1 HL1.out)
   have hA1:=put8_block (.int .i64 3) (.int .i64 2) (.int .i64 7) (.int .i64 0) (.int .i64 1) (.int .i64 9) (.int .i64 0) (.int .i64 1) HA1.out
   have hA0:=(put8_other (w:=Z4) (b:=bb) (k:=ba) (.int .i64 3) (.int .i64 2) (.int .i64 7) (.int .i64 0) (.int .i64 1) (.int .i64 9) (.int .i64 0) (.int .i64 1) (Ne.symm HN10.out)).trans HA0.out
   have hA2:=(put8_other (w:=Z4) (b:=bb) (k:=bc) (.int .i64 3) (.int .i64 2) (.int .i64 7) (.int .i64 0) (.int .i64 1) (.int .i64 9) (.int .i64 0) (.int .i64 1) HN21.out).trans HA2.out
   rw [put8] at hE1 hB1 hA0 hA1 hA2
   have HY:=Lib.hid (And.intro hE1 (And.intro hB1 (And.intro hA0 (And.intro hA1 (hA2)))))
   clear hE1 hB1 hA0 hA1 hA2 HE HB HA0 HA1 HA2
   go_wp2
   clear k0 k1 k2 k3 k4 k5 k6 k7 kz kl
   obtain ⟨hE1,hB1,hA0,hA1,hA2⟩:=HY.out
   clear HY
   generalize (World.setCell _ (⟨bb,7,none⟩ : Addr) _) = Z5 at hE1 hB1 hA0 hA1 hA2 ⊢
   refine mixQ_mk (over_of hE1) ?_
   have HE:=Lib.hid hE1
   have HB:=Lib.hid hB1
   have HA0:=Lib.hid hA0
   have HA1:=Lib.hid hA1
   have HA2:=Lib.hid hA2
   clear hE1 hB1 hA0 hA1 hA2
   refine ways_act 11 (by kernel_rfl) ?_
   simp only [pickL,List.map_cons,List.map_nil,List.getD_cons_zero,List.getD_cons_succ]
   obtain ⟨k0,k1,k2,k3,k4,k5,k6,k7,kz,kl⟩:=eit_of HA2.out
   have hE1:=put8_ext (b:=bc) (.int .i64 3) (.int .i64 2) (.int .i64 7) (.int .i64 0) (.int .i64 1) (.int .i64 9) (.int .i64 1) (.int .i64 0) HE.out HL2.out
   have hB1:=HB.out.stored8n (b:=bc) (.int .i64 3) (.int .i64 2) (.int .i64 7) (.int .i64 0) (.int .i64 1) (.int .i64 9) (.int .i64 1) (.int .i64 0) (Nat.le_trans hhi HL2.out) (Nat.le_trans hww1 HL2.out)
   have hA2:=put8_block (.int .i64 3) (.int .i64 2) (.int .i64 7) (.int .i64 0) (.int .i64 1) (.int .i64 9) (.int .i64 1) (.int .i64 0) HA2.out
   have hA0:=(put8_other (w:=Z5) (b:=bc) (k:=ba) (.int .i64 3) (.int .i64 2) (.int .i64 7) (.int .i64 0) (.int .i64 1) (.int .i64 9) (.int .i64 1) (.int .i64 0) (Ne.symm HN20.out)).trans HA0.out
   have hA1:=(put8_other (w:=Z5) (b:=bc) (k:=bb) (.int .i64 3) (.int .i64 2) (.int .i64 7) (.int .i64 0) (.int .i64 1) (.int .i64 9) (.int .i64 1) (.int .i64 0) (Ne.symm HN21.out)).trans HA1.out
   rw [put8] at hE1 hB1 hA0 hA1 hA2
   have HY:=Lib.hid (And.intro hE1 (And.intro hB1 (And.intro hA0 (And.intro hA1 (hA2)))))
   clear hE1 hB1 hA0 hA1 hA2 HE HB HA0 HA1 HA2
   go_wp2
   clear k0 k1 k2 k3 k4 k5 k6 k7 kz kl
   obtain ⟨hE1,hB1,hA0,hA1,hA2⟩:=HY.out
   clear HY
   generalize (World.setCell _ (⟨bc,7,none⟩ : Addr) _) = Z6 at hE1 hB1 hA0 hA1 hA2 ⊢
   refine mixQ_mk (over_of hE1) ?_
   have HE:=Lib.hid hE1
   have HB:=Lib.hid hB1
   have HA0:=Lib.hid hA0
   have HA1:=Lib.hid hA1
   have HA2:=Lib.hid hA2
   clear hE1 hB1 hA0 hA1 hA2
   refine ways_end (by kernel_rfl) ?_
   exact HREST ba bb bc Z6 (((HB.out.add (b:=bc) (o:=.cells #[.int .i64 3,.int .i64 2,.int .i64 7,.int .i64 0,.int .i64 1,.int .i64 9,.int .i64 1,.int .i64 0] 82) (.inr (Nat.le_trans hhi HL2.out)) (Nat.le_trans hww1 HL2.out) HA2.out).add (b:=bb) (o:=.cells #[.int .i64 3,.int .i64 2,.int .i64 7,.int .i64 0,.int .i64 1,.int .i64 9,.int .i64 0,.int .i64 1] 82) (.inr (Nat.le_trans hhi HL1.out)) (Nat.le_trans hww1 HL1.out) HA1.out).add (b:=ba) (o:=.cells #[.int .i64 3,.int .i64 2,.int .i64 7,.int .i64 0,.int .i64 1,.int .i64 9,.int .i64 0,.int .i64 0] 82) (.inr (Nat.le_trans hhi HL0.out)) (Nat.le_trans hww1 HL0.out) HA0.out)
end Go.Proofs.YthjklbonebnekaaGreat

