/-
  The law RetireReclaims, walked. Conditions: those of each theorem.
-/
import Derived.Test.YtlapcocljjgjlaaGreatGbe
namespace Go.Proofs.YtlapcocljjgjlaaGreat
open Go Go.RowKit

set_option maxRecDepth 8000 in
set_option maxHeartbeats 1000000 in
theorem rcl_nofew (p : Pl) (n : Int) (s : St) (hf : ¬ (p.few ∧ p.ok)) (w : World) : Calls Tryz.prog 4 #[plV p, .int .i64 n, .agg #[.int .i64 s.g, .int .i64 s.m, .int .i64 s.k]] w (Ret (.bool true) w) := by
  have HFP := Lib.hid hf
  clear hf
  go_enter Tryz.func4, Tryz.ntmps4
  go_wp2_with (first
    | (go_at_call 8; refine (r11wake_any _).mono ?_; rintro e w' hr; obtain ⟨rfl, sA, rfl⟩ := hr.over; clear hr)
    | (go_at_call 9; refine (r11few_any p _ false (hid_no HFP.out)).mono ?_; rintro e w' hr; obtain ⟨rfl, sA, rfl⟩ := hr.over; clear hr))
  go_ret
  exact Ret.mk (by repeat (first | exact ext_refl _ | apply ext_over | apply ext_alloc))
set_option maxRecDepth 8000 in
set_option maxHeartbeats 1000000 in
theorem rcl_neg (p : Pl) (n : Int) (s : St) (hf : p.few ∧ p.ok) (hn : n < 0) (w : World) : Calls Tryz.prog 4 #[plV p, .int .i64 n, .agg #[.int .i64 s.g, .int .i64 s.m, .int .i64 s.k]] w (Ret (.bool true) w) := by
  have HFP := Lib.hid hf
  clear hf
  have d1 : decide (n < 0) = true := by simp; omega
  go_enter Tryz.func4, Tryz.ntmps4
  go_wp2_with (first
    | (go_at_call 8; refine (r11wake_any _).mono ?_; rintro e w' hr; obtain ⟨rfl, sA, rfl⟩ := hr.over; clear hr)
    | (go_at_call 9; refine (r11few_any p _ true (hid_yes HFP.out)).mono ?_; rintro e w' hr; obtain ⟨rfl, sA, rfl⟩ := hr.over; clear hr))
  go_ret
  exact Ret.mk (by repeat (first | exact ext_refl _ | apply ext_over | apply ext_alloc))
set_option maxRecDepth 8000 in
set_option maxHeartbeats 1000000 in
theorem rcl_big (p : Pl) (n : Int) (s : St) (hf : p.few ∧ p.ok) (hn0 : 0 ≤ n) (hn : p.n ≤ n) (w : World) : Calls Tryz.prog 4 #[plV p, .int .i64 n, .agg #[.int .i64 s.g, .int .i64 s.m, .int .i64 s.k]] w (Ret (.bool true) w) := by
  have HFP := Lib.hid hf
  clear hf
  have d1 : decide (n < 0) = false := by simp; omega
  have d2 : decide (p.n ≤ n) = true := by simp; omega
  go_enter Tryz.func4, Tryz.ntmps4
  go_wp2_with (first
    | (go_at_call 8; refine (r11wake_any _).mono ?_; rintro e w' hr; obtain ⟨rfl, sA, rfl⟩ := hr.over; clear hr)
    | (go_at_call 9; refine (r11few_any p _ true (hid_yes HFP.out)).mono ?_; rintro e w' hr; obtain ⟨rfl, sA, rfl⟩ := hr.over; clear hr))
  go_ret
  exact Ret.mk (by repeat (first | exact ext_refl _ | apply ext_over | apply ext_alloc))
set_option maxRecDepth 8000 in
set_option maxHeartbeats 1000000 in
theorem rcl_odd (p : Pl) (n : Int) (s : St) (hf : p.few ∧ p.ok) (hn0 : 0 ≤ n) (hn : n < p.n) (hs : ¬ s.ok) (w : World) : Calls Tryz.prog 4 #[plV p, .int .i64 n, .agg #[.int .i64 s.g, .int .i64 s.m, .int .i64 s.k]] w (Ret (.bool true) w) := by
  have HFP := Lib.hid hf
  clear hf
  have d1 : decide (n < 0) = false := by simp; omega
  have d2 : decide (p.n ≤ n) = false := by simp; omega
  have hSF : ∀ W, Calls Tryz.prog 27 #[.agg #[.int .i64 s.g, .int .i64 s.m, .int .i64 s.k]] W (Ret (.bool false) W) := fun W => sformed_no s hs W
  go_enter Tryz.func4, Tryz.ntmps4
  go_wp2_with (first
    | (go_at_call 8; refine (r11wake_any _).mono ?_; rintro e w' hr; obtain ⟨rfl, sA, rfl⟩ := hr.over; clear hr)
    | (go_at_call 9; refine (r11few_any p _ true (hid_yes HFP.out)).mono ?_; rintro e w' hr; obtain ⟨rfl, sA, rfl⟩ := hr.over; clear hr)
    | (go_at_call 27; refine (hSF _).mono ?_; rintro e w' hr; obtain ⟨rfl, sA, rfl⟩ := hr.over; clear hr))
  go_ret
  exact Ret.mk (by repeat (first | exact ext_refl _ | apply ext_over | apply ext_alloc))
set_option maxRecDepth 8000 in
set_option maxHeartbeats 4000000 in
theorem rcl_gone (p : Pl) (n : Int) (s : St) (hf : p.few ∧ p.ok) (hn0 : 0 ≤ n) (hn1 : n < p.n) (hs : s.ok) (hq : (s.freed p.g).m = 3) (w : World) : Calls Tryz.prog 4 #[plV p, .int .i64 n, .agg #[.int .i64 s.g, .int .i64 s.m, .int .i64 s.k]] w (Ret (.bool true) w) := by
  have HFP := Lib.hid hf
  have HP := Lib.hid hf.2
  have d1 : decide (n < 0) = false := by simp; omega
  have d2 : decide (p.n ≤ n) = false := by simp; omega
  have hSF : ∀ W, Calls Tryz.prog 27 #[.agg #[.int .i64 s.g, .int .i64 s.m, .int .i64 s.k]] W (Ret (.bool true) W) := fun W => sformed_yes s hs W
  have HSO := Lib.hid hs
  obtain ⟨⟨g1, m1, j1⟩, hs1⟩ : ∃ s1, s.freed p.g = s1 := ⟨_, rfl⟩
  rw [hs1] at hq
  simp only at hq
  subst hq
  have hFr : ∀ W, Calls Tryz.prog 29 #[.agg #[.int .i64 s.g, .int .i64 s.m, .int .i64 s.k], .int .i64 p.g] W (Ret (.agg #[.int .i64 g1, .int .i64 3, .int .i64 j1]) W) := fun W => by
    have := freed_any s p.g W
    rw [hs1] at this
    exact this
  have hWd : ∀ W, Calls Tryz.prog 25 #[.agg #[.int .i64 g1, .int .i64 3, .int .i64 j1]] W (Ret (.int .u64 (U (St.word ⟨g1, 3, j1⟩))) W) := fun W => word_any ⟨g1, 3, j1⟩ W
  replace hFr := Lib.hid hFr
  replace hWd := Lib.hid hWd
  replace hs1 := Lib.hid hs1
  have hqb : (3 == 3) = true := rfl
  clear hf hs
  go_enter Tryz.func4, Tryz.ntmps4
  go_wp2_with (first
    | (go_at_call 8; refine (r11wake_any _).mono ?_; rintro e w' hr; obtain ⟨rfl, sA, rfl⟩ := hr.over; clear hr)
    | (go_at_call 9; refine (r11few_any p _ true (hid_yes HFP.out)).mono ?_; rintro e w' hr; obtain ⟨rfl, sA, rfl⟩ := hr.over; clear hr)
    | (go_at_call 27; refine (hSF _).mono ?_; rintro e w' hr; obtain ⟨rfl, sA, rfl⟩ := hr.over; clear hr)
    | (go_at_call 10; refine Hid.out ?_))
  refine Lib.hid ?_
  refine (popped_any p HP.out s _).mono ?_
  rintro e w1 ⟨lo, hi, L, M, rfl, hM, hPo, hx, hlo⟩
  have hx1 : Ext ((w.alloc (.cells #[.int .i64 p.n, .int .i64 p.t, .int .i64 p.r, .int .i64 p.d, .int .i64 p.b, .int .i64 p.g] 23)).alloc (.cells #[.int .i64 s.g, .int .i64 s.m, .int .i64 s.k] 29)) w1 := by
    refine ext_trans ?_ hx
    repeat (first | exact ext_refl _ | apply ext_over)
  have hb0 : PBox w.heap.size p w1 := (hx1.block _ (by simp; omega)).trans ((Below.heap_alloc _ _ _ (by simp)).trans (heap_at _ _ _ rfl))
  have hb1 : w1.heap[w.heap.size + 1]? = some (.cells #[.int .i64 s.g, .int .i64 s.m, .int .i64 s.k] 29 (0, 0)) := (hx1.block _ (by simp)).trans (heap_at _ _ _ (by simp))
  have hlo1 : w.heap.size + 1 < lo := by
    refine Nat.lt_of_lt_of_le ?_ hlo
    refine Nat.lt_of_lt_of_le (m := ((w.alloc (.cells #[.int .i64 p.n, .int .i64 p.t, .int .i64 p.r, .int .i64 p.d, .int .i64 p.b, .int .i64 p.g] 23)).alloc (.cells #[.int .i64 s.g, .int .i64 s.m, .int .i64 s.k] 29)).heap.size) (by simp) ?_
    first | exact over_size _ _ | exact Nat.le_trans (over_size _ _) (over_size _ _) | exact Nat.le_trans (over_size _ _) (Nat.le_trans (over_size _ _) (over_size _ _)) | exact Nat.le_trans (over_size _ _) (Nat.le_trans (over_size _ _) (Nat.le_trans (over_size _ _) (over_size _ _)))
  have hhi := hM.top
  have hE : Ext w w1 := ext_trans (ext_alloc _ (ext_alloc _ (ext_refl w))) hx1
  have HI := Lib.hid (PoIn.mk (s := s) ⟨hM, hPo.fl.mg, hE, hb0⟩ hb1)
  have hfl := hPo.fl
  rw [Nat.sub_self] at hfl
  have hst : nst p M n = ⟨g1, 3, j1⟩ := by
    unfold nst
    rw [hPo.sd n ⟨hn0, hn1⟩ (by omega), (isW_word s HSO.out).2]
    exact hs1.out
  obtain ⟨M1, fl1, T1, kk, r1, hkk, hR⟩ := rcl_run HP.out hfl (n := n) ⟨hn0, hn1⟩ (by simp [rfr]) (by have := HP.out.1; omega) 0
  have hfl1 := hR.l'
  rw [hst] at r1 hfl1
  simp only [rfr, if_true] at r1 hfl1
  subst hfl1
  have HR1 := Lib.hid r1
  have HFL := Lib.hid hR.hl
  have hsd := hR.st
  rw [hst] at hsd
  obtain ⟨PK, hPK⟩ : ∃ f : Int → Int, ∀ a, f a = U (M1.wd 0 a.toNat) := ⟨_, fun _ => rfl⟩
  have kst : PK (p.stF n) = U (St.word ⟨g1, 3, j1⟩) := by rw [hPK]; exact congrArg U hsd
  have kf0 : PK (p.fdF n 0) = 0 := (hPK _).trans ((congrArg U (hR.fd 0 (by omega) (by omega))).trans U_0)
  have kf1 : PK (p.fdF n 1) = 0 := (hPK _).trans ((congrArg U (hR.fd 1 (by omega) (by omega))).trans U_0)
  have kf2 : PK (p.fdF n 2) = 0 := (hPK _).trans ((congrArg U (hR.fd 2 (by omega) (by omega))).trans U_0)
  obtain ⟨e1, _, e3, e4, e5⟩ := node_pl HP.out (n := n) ⟨hn0, hn1⟩
  have ost : 0 ≤ p.stF n ∧ p.stF n < p.sizeF := by omega
  have of0 : 0 ≤ p.fdF n 0 ∧ p.fdF n 0 < p.sizeF := by have := e3 0 (by omega) (by omega); omega
  have of1 : 0 ≤ p.fdF n 1 ∧ p.fdF n 1 < p.sizeF := by have := e3 1 (by omega) (by omega); omega
  have of2 : 0 ≤ p.fdF n 2 ∧ p.fdF n 2 < p.sizeF := by have := e3 2 (by omega) (by omega); omega
  have hPk : ∀ (a : Int) (W : World), MemIn lo hi L M1 W → (0 ≤ a ∧ a < p.sizeF) → Calls Tryz.prog 23 #[.pointer (some ⟨L.bm, 0, none⟩), .int .i64 0, .int .i64 a] W (Ret (.int .u64 (PK a)) W) := fun a W hm hq =>
    peek_int hm 0 a (PK a) (by omega) (by rw [HFL.out.mg.n]; omega) hq.1 (by show a < (M1.sz 0 : Int); rw [HFL.out.mg.s]; omega) (Lib.hid (hPK a).symm)
  replace hPk := Lib.hid hPk
  replace ost := Lib.hid ost
  replace of0 := Lib.hid of0
  replace of1 := Lib.hid of1
  replace of2 := Lib.hid of2
  clear hM hPo hx hx1 hlo hb0 hb1 hfl hst r1 hR hsd hPK e1 e3 e4 e5 hE
  have HH := Lib.hid HI.out.h
  have ⟨c0, c1, c2, c3, c4, c5, lt⟩ := HI.out.h.pb.plc
  go_wp2_with (go_at_call 28; refine (rcl_PT p n 2 _).mono ?_; rintro e w2 ⟨v1, F1, rfl, hx2, hp1, hbn1, hsub1⟩; refine Hid.out ?_)
  refine Lib.hid ?_
  have HOF1 := Lib.hid (fun j (hj : F1 j) => (hsub1 j hj).elim (fun h => h.elim) fun h => (.inr (Nat.le_trans HH.out.m.top h) : j < lo ∨ hi ≤ j))
  have HH2 := Lib.hid (HH.out.ext hx2)
  have HP1 := Lib.hid hp1
  have HBN1 := Lib.hid hbn1
  have HIb := Lib.hid (HI.out.ext hx2)
  clear hx2 hp1 hbn1 hsub1
  go_wp2_with (go_at_call 14; refine (cap_int HH2.out.m 0 1#64 (by omega) (by rw [HH2.out.mg.n]; omega) (Lib.hid HH2.out.mg.e)).mono ?_; rintro e w3 ⟨rfl, hx3⟩; refine Hid.out ?_)
  refine Lib.hid ?_
  have HH3 := Lib.hid (HH2.out.ext hx3)
  replace HP1 := Lib.hid (HP1.out.agr (Agr.of_ext hx3 HBN1.out))
  replace HBN1 := Lib.hid (HBN1.out.ext hx3.size)
  have HIc := Lib.hid (HIb.out.ext hx3)
  clear hx3
  go_wp2_with (go_at_call 12; refine (runI_any HR1.out 99 (by omega) (by omega) F1 v1 w3 HP1.out HBN1.out HOF1.out HH3.out.m).mono ?_; rintro e w4 ⟨rfl, hm4, hf4⟩; refine Hid.out ?_)
  refine Lib.hid ?_
  have HI4 := Lib.hid (HIc.out.ran hm4 hf4 HFL.out.mg hlo1)
  clear hm4 hf4 HP1 HBN1 HOF1 HI HIb HIc HH HH2 HH3 HR1 c0 c1 c2 c3 c4 c5 lt
  have ⟨c0, c1, c2, c3, c4, c5, lt⟩ := HI4.out.h.pb.plc
  have d3 := cell_at (o := 0) HI4.out.sb rfl
  have d4 := cell_at (o := 1) HI4.out.sb rfl
  have d5 := cell_at (o := 2) HI4.out.sb rfl
  have dl := cell_lt d3
  go_wp2_with (go_at_call 29; refine (hFr.out _).mono ?_; rintro e w5 ⟨rfl, hx⟩; refine Hid.out ?_)
  refine Lib.hid ?_
  have HI5 := Lib.hid (HI4.out.ext hx)
  clear hx HI4 c0 c1 c2 c3 c4 c5 lt d3 d4 d5 dl
  have ⟨c0, c1, c2, c3, c4, c5, lt⟩ := HI5.out.h.pb.plc
  go_wp2_with (go_at_call 22; refine Hid.out ?_)
  refine Lib.hid ?_
  have hb3 := heap_at w5 (.cells #[.int .i64 g1, .int .i64 3, .int .i64 j1] 29) w5.heap.size rfl
  have HI6 := Lib.hid (HI5.out.ext (ext_alloc (.cells #[.int .i64 g1, .int .i64 3, .int .i64 j1] 29) (ext_refl w5)))
  generalize w5.alloc (.cells #[.int .i64 g1, .int .i64 3, .int .i64 j1] 29) = w6 at hb3 HI6 ⊢
  refine (flist_any p HP.out ([] : List Int) _ HFL.out HI6.out.h.m).mono ?_
  rintro e w7 ⟨v, rfl, hv, hx⟩
  have HI7 := Lib.hid (HI6.out.ext hx)
  replace hb3 := (hx.block _ (heap_lt hb3)).trans hb3
  clear hx HI6 HI5 c0 c1 c2 c3 c4 c5 lt
  obtain ⟨va, vc, rfl⟩ := hv.slice
  clear hv
  have ⟨c0, c1, c2, c3, c4, c5, lt⟩ := HI7.out.h.pb.plc
  have d3 := cell_at (o := 0) hb3 rfl
  have d4 := cell_at (o := 1) hb3 rfl
  have d5 := cell_at (o := 2) hb3 rfl
  have dl := cell_lt d3
  clear hb3
  go_wp2
  refine wp_region_over (by kernel_rfl) (by kernel_rfl) ?_
  repeat (go_big_quiet_step (first | (go_at_call 24; exact over_call (state_any p n _)) | (go_at_call 26; exact over_call (field_any p n _ _)) | (go_at_call 25; exact over_call (hWd.out _)) | (go_at_call 23; exact over_call (hPk.out _ _ (HI7.out.h.m.over _) (by first | exact ost.out | exact of0.out | exact of1.out | exact of2.out)))))
  refine wpQuiet_nil ?_
  intro _ hw'
  obtain ⟨s9, hw''⟩ := hw'
  subst hw''
  go_wp2
  go_ret
  exact Ret.bool (by first | rfl | simp) (ext_over s9 HI7.out.h.ex)
set_option maxRecDepth 8000 in
set_option maxHeartbeats 4000000 in
theorem rcl_free (p : Pl) (n : Int) (s : St) (hf : p.few ∧ p.ok) (hn0 : 0 ≤ n) (hn1 : n < p.n) (hs : s.ok) (hq : ¬ (s.freed p.g).m = 3) (w : World) : Calls Tryz.prog 4 #[plV p, .int .i64 n, .agg #[.int .i64 s.g, .int .i64 s.m, .int .i64 s.k]] w (Ret (.bool true) w) := by
  have HFP := Lib.hid hf
  have HP := Lib.hid hf.2
  have d1 : decide (n < 0) = false := by simp; omega
  have d2 : decide (p.n ≤ n) = false := by simp; omega
  have hSF : ∀ W, Calls Tryz.prog 27 #[.agg #[.int .i64 s.g, .int .i64 s.m, .int .i64 s.k]] W (Ret (.bool true) W) := fun W => sformed_yes s hs W
  have HSO := Lib.hid hs
  obtain ⟨⟨g1, m1, j1⟩, hs1⟩ : ∃ s1, s.freed p.g = s1 := ⟨_, rfl⟩
  rw [hs1] at hq
  simp only at hq
  have hFr : ∀ W, Calls Tryz.prog 29 #[.agg #[.int .i64 s.g, .int .i64 s.m, .int .i64 s.k], .int .i64 p.g] W (Ret (.agg #[.int .i64 g1, .int .i64 m1, .int .i64 j1]) W) := fun W => by
    have := freed_any s p.g W
    rw [hs1] at this
    exact this
  have hWd : ∀ W, Calls Tryz.prog 25 #[.agg #[.int .i64 g1, .int .i64 m1, .int .i64 j1]] W (Ret (.int .u64 (U (St.word ⟨g1, m1, j1⟩))) W) := fun W => word_any ⟨g1, m1, j1⟩ W
  replace hFr := Lib.hid hFr
  replace hWd := Lib.hid hWd
  replace hs1 := Lib.hid hs1
  have hqb : (m1 == 3) = false := beq_eq_false_iff_ne.2 hq
  clear hf hs
  go_enter Tryz.func4, Tryz.ntmps4
  go_wp2_with (first
    | (go_at_call 8; refine (r11wake_any _).mono ?_; rintro e w' hr; obtain ⟨rfl, sA, rfl⟩ := hr.over; clear hr)
    | (go_at_call 9; refine (r11few_any p _ true (hid_yes HFP.out)).mono ?_; rintro e w' hr; obtain ⟨rfl, sA, rfl⟩ := hr.over; clear hr)
    | (go_at_call 27; refine (hSF _).mono ?_; rintro e w' hr; obtain ⟨rfl, sA, rfl⟩ := hr.over; clear hr)
    | (go_at_call 10; refine Hid.out ?_))
  refine Lib.hid ?_
  refine (popped_any p HP.out s _).mono ?_
  rintro e w1 ⟨lo, hi, L, M, rfl, hM, hPo, hx, hlo⟩
  have hx1 : Ext ((w.alloc (.cells #[.int .i64 p.n, .int .i64 p.t, .int .i64 p.r, .int .i64 p.d, .int .i64 p.b, .int .i64 p.g] 23)).alloc (.cells #[.int .i64 s.g, .int .i64 s.m, .int .i64 s.k] 29)) w1 := by
    refine ext_trans ?_ hx
    repeat (first | exact ext_refl _ | apply ext_over)
  have hb0 : PBox w.heap.size p w1 := (hx1.block _ (by simp; omega)).trans ((Below.heap_alloc _ _ _ (by simp)).trans (heap_at _ _ _ rfl))
  have hb1 : w1.heap[w.heap.size + 1]? = some (.cells #[.int .i64 s.g, .int .i64 s.m, .int .i64 s.k] 29 (0, 0)) := (hx1.block _ (by simp)).trans (heap_at _ _ _ (by simp))
  have hlo1 : w.heap.size + 1 < lo := by
    refine Nat.lt_of_lt_of_le ?_ hlo
    refine Nat.lt_of_lt_of_le (m := ((w.alloc (.cells #[.int .i64 p.n, .int .i64 p.t, .int .i64 p.r, .int .i64 p.d, .int .i64 p.b, .int .i64 p.g] 23)).alloc (.cells #[.int .i64 s.g, .int .i64 s.m, .int .i64 s.k] 29)).heap.size) (by simp) ?_
    first | exact over_size _ _ | exact Nat.le_trans (over_size _ _) (over_size _ _) | exact Nat.le_trans (over_size _ _) (Nat.le_trans (over_size _ _) (over_size _ _)) | exact Nat.le_trans (over_size _ _) (Nat.le_trans (over_size _ _) (Nat.le_trans (over_size _ _) (over_size _ _)))
  have hhi := hM.top
  have hE : Ext w w1 := ext_trans (ext_alloc _ (ext_alloc _ (ext_refl w))) hx1
  have HI := Lib.hid (PoIn.mk (s := s) ⟨hM, hPo.fl.mg, hE, hb0⟩ hb1)
  have hfl := hPo.fl
  rw [Nat.sub_self] at hfl
  have hst : nst p M n = ⟨g1, m1, j1⟩ := by
    unfold nst
    rw [hPo.sd n ⟨hn0, hn1⟩ (by omega), (isW_word s HSO.out).2]
    exact hs1.out
  obtain ⟨M1, fl1, T1, kk, r1, hkk, hR⟩ := rcl_run HP.out hfl (n := n) ⟨hn0, hn1⟩ (by simp [rfr]) (by have := HP.out.1; omega) 0
  have hfl1 := hR.l'
  rw [hst] at r1 hfl1
  simp only [rfr, hq, if_false] at r1 hfl1
  subst hfl1
  have HR1 := Lib.hid r1
  have HFL := Lib.hid hR.hl
  have hsd := hR.st
  rw [hst] at hsd
  obtain ⟨PK, hPK⟩ : ∃ f : Int → Int, ∀ a, f a = U (M1.wd 0 a.toNat) := ⟨_, fun _ => rfl⟩
  have kst : PK (p.stF n) = U (St.word ⟨g1, m1, j1⟩) := by rw [hPK]; exact congrArg U hsd
  have kf0 : PK (p.fdF n 0) = 0 := (hPK _).trans ((congrArg U (hR.fd 0 (by omega) (by omega))).trans U_0)
  have kf1 : PK (p.fdF n 1) = 0 := (hPK _).trans ((congrArg U (hR.fd 1 (by omega) (by omega))).trans U_0)
  have kf2 : PK (p.fdF n 2) = 0 := (hPK _).trans ((congrArg U (hR.fd 2 (by omega) (by omega))).trans U_0)
  obtain ⟨e1, _, e3, e4, e5⟩ := node_pl HP.out (n := n) ⟨hn0, hn1⟩
  have ost : 0 ≤ p.stF n ∧ p.stF n < p.sizeF := by omega
  have of0 : 0 ≤ p.fdF n 0 ∧ p.fdF n 0 < p.sizeF := by have := e3 0 (by omega) (by omega); omega
  have of1 : 0 ≤ p.fdF n 1 ∧ p.fdF n 1 < p.sizeF := by have := e3 1 (by omega) (by omega); omega
  have of2 : 0 ≤ p.fdF n 2 ∧ p.fdF n 2 < p.sizeF := by have := e3 2 (by omega) (by omega); omega
  have hPk : ∀ (a : Int) (W : World), MemIn lo hi L M1 W → (0 ≤ a ∧ a < p.sizeF) → Calls Tryz.prog 23 #[.pointer (some ⟨L.bm, 0, none⟩), .int .i64 0, .int .i64 a] W (Ret (.int .u64 (PK a)) W) := fun a W hm hq =>
    peek_int hm 0 a (PK a) (by omega) (by rw [HFL.out.mg.n]; omega) hq.1 (by show a < (M1.sz 0 : Int); rw [HFL.out.mg.s]; omega) (Lib.hid (hPK a).symm)
  replace hPk := Lib.hid hPk
  replace ost := Lib.hid ost
  replace of0 := Lib.hid of0
  replace of1 := Lib.hid of1
  replace of2 := Lib.hid of2
  clear hM hPo hx hx1 hlo hb0 hb1 hfl hst r1 hR hsd hPK e1 e3 e4 e5 hE
  have HH := Lib.hid HI.out.h
  have ⟨c0, c1, c2, c3, c4, c5, lt⟩ := HI.out.h.pb.plc
  go_wp2_with (go_at_call 28; refine (rcl_PT p n 2 _).mono ?_; rintro e w2 ⟨v1, F1, rfl, hx2, hp1, hbn1, hsub1⟩; refine Hid.out ?_)
  refine Lib.hid ?_
  have HOF1 := Lib.hid (fun j (hj : F1 j) => (hsub1 j hj).elim (fun h => h.elim) fun h => (.inr (Nat.le_trans HH.out.m.top h) : j < lo ∨ hi ≤ j))
  have HH2 := Lib.hid (HH.out.ext hx2)
  have HP1 := Lib.hid hp1
  have HBN1 := Lib.hid hbn1
  have HIb := Lib.hid (HI.out.ext hx2)
  clear hx2 hp1 hbn1 hsub1
  go_wp2_with (go_at_call 14; refine (cap_int HH2.out.m 0 1#64 (by omega) (by rw [HH2.out.mg.n]; omega) (Lib.hid HH2.out.mg.e)).mono ?_; rintro e w3 ⟨rfl, hx3⟩; refine Hid.out ?_)
  refine Lib.hid ?_
  have HH3 := Lib.hid (HH2.out.ext hx3)
  replace HP1 := Lib.hid (HP1.out.agr (Agr.of_ext hx3 HBN1.out))
  replace HBN1 := Lib.hid (HBN1.out.ext hx3.size)
  have HIc := Lib.hid (HIb.out.ext hx3)
  clear hx3
  go_wp2_with (go_at_call 12; refine (runI_any HR1.out 99 (by omega) (by omega) F1 v1 w3 HP1.out HBN1.out HOF1.out HH3.out.m).mono ?_; rintro e w4 ⟨rfl, hm4, hf4⟩; refine Hid.out ?_)
  refine Lib.hid ?_
  have HI4 := Lib.hid (HIc.out.ran hm4 hf4 HFL.out.mg hlo1)
  clear hm4 hf4 HP1 HBN1 HOF1 HI HIb HIc HH HH2 HH3 HR1 c0 c1 c2 c3 c4 c5 lt
  have ⟨c0, c1, c2, c3, c4, c5, lt⟩ := HI4.out.h.pb.plc
  have d3 := cell_at (o := 0) HI4.out.sb rfl
  have d4 := cell_at (o := 1) HI4.out.sb rfl
  have d5 := cell_at (o := 2) HI4.out.sb rfl
  have dl := cell_lt d3
  go_wp2_with (go_at_call 29; refine (hFr.out _).mono ?_; rintro e w5 ⟨rfl, hx⟩; refine Hid.out ?_)
  refine Lib.hid ?_
  have HI5 := Lib.hid (HI4.out.ext hx)
  clear hx HI4 c0 c1 c2 c3 c4 c5 lt d3 d4 d5 dl
  have ⟨c0, c1, c2, c3, c4, c5, lt⟩ := HI5.out.h.pb.plc
  go_wp2_with (go_at_call 22; refine Hid.out ?_)
  refine Lib.hid ?_
  have hb3 := heap_at w5 (.cells #[.int .i64 g1, .int .i64 m1, .int .i64 j1] 29) w5.heap.size rfl
  have HI6 := Lib.hid (HI5.out.ext (ext_alloc (.cells #[.int .i64 g1, .int .i64 m1, .int .i64 j1] 29) (ext_refl w5)))
  generalize w5.alloc (.cells #[.int .i64 g1, .int .i64 m1, .int .i64 j1] 29) = w6 at hb3 HI6 ⊢
  refine (flist_any p HP.out [n] _ HFL.out HI6.out.h.m).mono ?_
  rintro e w7 ⟨v, rfl, hv, hx⟩
  have HI7 := Lib.hid (HI6.out.ext hx)
  replace hb3 := (hx.block _ (heap_lt hb3)).trans hb3
  clear hx HI6 HI5 c0 c1 c2 c3 c4 c5 lt
  obtain ⟨vg, vo, vc, rfl, hvl, hvb, hvc, hvr⟩ := hv.some (by simp)
  have hv0 := hvr 0 (by simp)
  rw [show iN [n] 0 = n from rfl, Nat.add_zero] at hv0
  clear hvr hvb
  clear hv
  have ⟨c0, c1, c2, c3, c4, c5, lt⟩ := HI7.out.h.pb.plc
  have d3 := cell_at (o := 0) hb3 rfl
  have d4 := cell_at (o := 1) hb3 rfl
  have d5 := cell_at (o := 2) hb3 rfl
  have dl := cell_lt d3
  clear hb3
  go_wp2
  refine wp_region_over (by kernel_rfl) (by kernel_rfl) ?_
  repeat (go_big_quiet_step (first | (go_at_call 24; exact over_call (state_any p n _)) | (go_at_call 26; exact over_call (field_any p n _ _)) | (go_at_call 25; exact over_call (hWd.out _)) | (go_at_call 23; exact over_call (hPk.out _ _ (HI7.out.h.m.over _) (by first | exact ost.out | exact of0.out | exact of1.out | exact of2.out)))))
  refine wpQuiet_nil ?_
  intro _ hw'
  obtain ⟨s9, hw''⟩ := hw'
  subst hw''
  go_wp2
  go_ret
  exact Ret.bool (by first | rfl | simp) (ext_over s9 HI7.out.h.ex)
end Go.Proofs.YtlapcocljjgjlaaGreat
