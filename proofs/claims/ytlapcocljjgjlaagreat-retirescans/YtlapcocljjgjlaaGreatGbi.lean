/-
  The law RetireScans, walked. Conditions: those of each theorem.
-/
import Derived.Test.YtlapcocljjgjlaaGreatGbh
import Derived.Deep.Cut
namespace Go.Proofs.YtlapcocljjgjlaaGreat
open Go Go.RowKit

set_option maxRecDepth 8000 in
set_option maxHeartbeats 1000000 in
theorem rsc_nofew (p : Pl) (a a2 : Option Addr) (m cap m2 cap2 : Nat) (hf : ¬ (p.few ∧ p.ok)) (w : World) : Calls Tryz.prog 3 #[plV p, .slice a m cap, .slice a2 m2 cap2] w (Ret (.bool true) w) := by
  have HFP := Lib.hid hf
  clear hf
  go_enter Tryz.func3, Tryz.ntmps3
  go_wp2_with (first
    | (go_at_call 8; refine (r11wake_any _).mono ?_; rintro e w' hr; obtain ⟨rfl, sA, rfl⟩ := hr.over; clear hr)
    | (go_at_call 9; refine (r11few_any p _ false (hid_no HFP.out)).mono ?_; rintro e w' hr; obtain ⟨rfl, sA, rfl⟩ := hr.over; clear hr))
  go_ret
  exact Ret.mk (by repeat (first | exact ext_refl _ | apply ext_over | apply ext_alloc))
set_option maxRecDepth 8000 in
set_option maxHeartbeats 1000000 in
theorem rsc_long (p : Pl) (a a2 : Option Addr) (m cap m2 cap2 : Nat) (hf : p.few ∧ p.ok) (hm : 40 < m) (w : World) : Calls Tryz.prog 3 #[plV p, .slice a m cap, .slice a2 m2 cap2] w (Ret (.bool true) w) := by
  have HFP := Lib.hid hf
  have d1 : decide (40 < (m : Int)) = true := by simp; omega
  clear hf
  go_enter Tryz.func3, Tryz.ntmps3
  go_wp2_with (first
    | (go_at_call 8; refine (r11wake_any _).mono ?_; rintro e w' hr; obtain ⟨rfl, sA, rfl⟩ := hr.over; clear hr)
    | (go_at_call 9; refine (r11few_any p _ true (hid_yes HFP.out)).mono ?_; rintro e w' hr; obtain ⟨rfl, sA, rfl⟩ := hr.over; clear hr))
  go_ret
  exact Ret.mk (by repeat (first | exact ext_refl _ | apply ext_over | apply ext_alloc))
set_option maxRecDepth 8000 in
set_option maxHeartbeats 1000000 in
theorem rsc_wide (p : Pl) (a a2 : Option Addr) (m cap m2 cap2 : Nat) (hf : p.few ∧ p.ok) (hm : m ≤ 40) (hm2 : p.n < (m2 : Int)) (w : World) : Calls Tryz.prog 3 #[plV p, .slice a m cap, .slice a2 m2 cap2] w (Ret (.bool true) w) := by
  have HFP := Lib.hid hf
  have d1 : decide (40 < (m : Int)) = false := by simp; omega
  have d2 : decide (p.n < (m2 : Int)) = true := by simp; omega
  clear hf
  go_enter Tryz.func3, Tryz.ntmps3
  go_wp2_with (first
    | (go_at_call 8; refine (r11wake_any _).mono ?_; rintro e w' hr; obtain ⟨rfl, sA, rfl⟩ := hr.over; clear hr)
    | (go_at_call 9; refine (r11few_any p _ true (hid_yes HFP.out)).mono ?_; rintro e w' hr; obtain ⟨rfl, sA, rfl⟩ := hr.over; clear hr))
  go_ret
  exact Ret.mk (by repeat (first | exact ext_refl _ | apply ext_over | apply ext_alloc))
set_option maxRecDepth 8000 in
set_option maxHeartbeats 16000000 in
theorem rsc_yes (p : Pl) (g0 : Int) (hf : (Pl.mk p.n p.t p.r p.d p.b g0).few ∧ (Pl.mk p.n p.t p.r p.d p.b g0).ok) (hg9 : p.g = 9) (ls : List Int) (hl0 : List Bool) (v v2 : Value) (w : World) (hls : Is w v ls) (hbs : Bs w v2 hl0) (hm : ls.length ≤ 40) (hm2 : (hl0.length : Int) ≤ p.n) : Calls Tryz.prog 3 #[.agg #[.int .i64 p.n, .int .i64 p.t, .int .i64 p.r, .int .i64 p.d, .int .i64 p.b, .int .i64 g0], v, v2] w (Ret (.bool true) w) := by
  have HFP := Lib.hid hf
  have hpo : p.ok := by
    have h := hf.2
    unfold Pl.ok at h ⊢
    simp only at h
    omega
  have hn40 : p.n ≤ 40 := (hf.1 hf.2).1
  have HP := Lib.hid hpo
  have HG9 := Lib.hid hg9
  have HX := Lib.hid hls
  have HXB := Lib.hid hbs
  obtain ⟨a0, cap, rfl, hcap, hcell⟩ := hls
  clear hcell
  obtain ⟨a02, cap2, rfl, hcap2, hcell⟩ := hbs
  clear hcell
  have hpt := hpo.2.1
  have hpn := hpo.1
  have hrr : 3 * p.t + 1 ≤ p.r ∧ p.r ≤ 1024 := hpo.2.2.1
  obtain ⟨tt, htt⟩ : ∃ t : Int, t = p.t - 1 := ⟨_, rfl⟩
  have h0 : 0 ≤ tt := by omega
  have h1 : tt < p.t := by omega
  have e1h : Hid (wrap64 (3 * p.t) = 3 * p.t) := Lib.hid (by unfold wrap64; omega)
  have HTT := Lib.hid htt
  have HPT : Hid (∀ (y : Int) (W : World), 0 ≤ y → y < 4611686018427387904 → Calls Tryz.prog 13 #[plV p, .int .i64 (p.t - 1), .int .i64 y] W (RetP (PT kI (putT p tt y)) noF W)) := Lib.hid (fun y W a b => by rw [← htt]; exact rput_PT p tt y W hpo a b)
  have HSC : Hid (∀ W : World, Calls Tryz.prog 17 #[plV p, .int .i64 (p.t - 1)] W (RetP (PT kI (scanT p tt 2)) noF W)) := Lib.hid (fun W => by rw [← htt]; exact scan_PT p tt 2 W hpo)
  have d1 : decide (40 < (ls.length : Int)) = false := by simp; omega
  have d2 : decide (p.n < (hl0.length : Int)) = false := by simp; omega
  clear hf hpo hg9 htt
  have hPop : ∀ W, Calls Tryz.prog 10 #[plV p, .agg #[.int .i64 3, .int .i64 2, .int .i64 1]] W (RetPopd p ⟨3, 2, 1⟩ W) := fun W => popped_any p HP.out ⟨3, 2, 1⟩ W
  replace hPop := Lib.hid hPop
  go_enter Tryz.func3, Tryz.ntmps3
  go_wp2_with (go_at_call 8; refine (r11wake_any _).mono ?_; rintro e wa ⟨rfl, hxa⟩; refine Hid.out ?_)
  refine Lib.hid ?_
  have hb0 : wa.heap[w.heap.size]? = some (.cells #[.int .i64 p.n, .int .i64 p.t, .int .i64 p.r, .int .i64 p.d, .int .i64 p.b, .int .i64 g0] 23 (0, 0)) := (hxa.block _ (by simp)).trans (heap_at w _ _ rfl)
  have hE : Ext w wa := ext_trans (ext_alloc _ (ext_refl w)) hxa
  clear hxa
  have ⟨c0, c1, c2, c3, c4, c5, cz, lt⟩ := six_at hb0
  go_wp2_with (go_at_call 9; refine (r11few_any ⟨p.n, p.t, p.r, p.d, p.b, g0⟩ _ true (hid_yes HFP.out)).mono ?_; rintro e wb ⟨rfl, hxb⟩; refine Hid.out ?_)
  refine Lib.hid ?_
  clear c0 c1 c2 c3 c4 c5 cz lt
  replace hb0 := (hxb.block _ (heap_lt hb0)).trans hb0
  replace hE := ext_trans hE hxb
  clear hxb
  have ⟨c0, c1, c2, c3, c4, c5, cz, lt⟩ := six_at hb0
  go_upto_region 4 with (fail)
  clear c0 c1 c2 c3 c4 c5 cz lt
  have hs0 := heap_at wb (.cells #[.int .i64 3, .int .i64 2, .int .i64 1] 29) wb.heap.size rfl
  have hsb : w.heap.size < wb.heap.size := heap_lt hb0
  have hxc := ext_alloc (.cells #[.int .i64 3, .int .i64 2, .int .i64 1] 29) (ext_refl wb)
  replace hb0 := (hxc.block _ (heap_lt hb0)).trans hb0
  replace hE := ext_trans hE hxc
  clear hxc
  generalize wb.alloc (.cells #[.int .i64 3, .int .i64 2, .int .i64 1] 29) = wc at hs0 hb0 hE ⊢
  generalize wb.heap.size = sb at hs0 hsb ⊢
  have ⟨c0, c1, c2, c3, c4, c5, cz, lt⟩ := six_at hb0
  go_upto_region 5 with (fail)
  clear c0 c1 c2 c3 c4 c5 cz lt
  have hb1 : PBox w.heap.size p (wc.setCell ⟨w.heap.size, 5, none⟩ (.int .i64 9)) := by
    have h := set_same (o := 5) (.int .i64 9) hb0
    unfold PBox
    rw [HG9.out]
    simpa only [List.setIfInBounds_toArray, List.set_cons_succ, List.set_cons_zero] using h
  have hs1 := (set_other (o := 5) (.int .i64 9) (show sb ≠ w.heap.size by omega)).trans hs0
  replace hE : Ext w (wc.setCell ⟨w.heap.size, 5, none⟩ (.int .i64 9)) := ext_set _ (Nat.le_refl _) hE
  clear hs0 hb0 hsb
  generalize (World.setCell wc (⟨w.heap.size, 5, none⟩ : Addr) (.int .i64 9)) = wd at hb1 hs1 hE ⊢
  have ⟨c0, c1, c2, c3, c4, c5, lt⟩ := hb1.plc
  have s0 := cell_at (o := 0) hs1 rfl
  have s1 := cell_at (o := 1) hs1 rfl
  have s2 := cell_at (o := 2) hs1 rfl
  have sl := cell_lt s0
  go_wp2_with (go_at_call 10; refine Hid.out ?_)
  refine Lib.hid ?_
  refine (hPop.out _).mono ?_
  rintro e w1 ⟨lo, hi, L, M, rfl, hM, hPo, hx, hlo⟩
  have hlo1 : w.heap.size < lo := by omega
  have hhi := hM.top
  have HI := Lib.hid (HIn.mk hM hPo.fl.mg (ext_trans hE hx) (PBox.ext hb1 hx))
  have hfl := hPo.fl
  rw [Nat.sub_self] at hfl
  obtain ⟨base, hbase⟩ : ∃ b, Hid (w1.heap.size = b) := ⟨_, Lib.hid rfl⟩
  have hhb : hi ≤ base := by have := hbase.out; omega
  have hbs : w.heap.size < base := by have := hx.size; have := heap_lt hb1; have := hbase.out; omega
  have hpnn : p.n.toNat ≤ 40 := by omega
  have HS : Hid (SwIn p tt lo hi L base w M [] [] p.n.toNat (.slice none 0 0) (fun _ => 0#64) w1) := Lib.hid ⟨HI.out, low_rts HP.out hPo.low h0 h1, hfl, IR.nil _ _, (by simp), (by have := hbase.out; omega), (fun x hx => hPo.sd x hx (by have := hx.2; omega)), (fun i hi => low_hz HP.out hPo.low hi)⟩
  clear hM hPo hx hlo hfl HI hE hb1 hs1 c0 c1 c2 c3 c4 c5 lt s0 s1 s2 sl hhi hPop
  generalize p.n.toNat = TT at HS hpnn
  go_wp2
  go_loopw [9, 10] (fun va vi wr => SwRel p tt lo hi L base w TT ls.length va vi wr) (fun _ vi _ => (ls.length - intOf vi).toNat)
  case atStart => exact ⟨0, M, [], rfl, Nat.zero_le _, (by simp), HS.out⟩
  case round =>
    clear HS
    obtain ⟨i, M, la, rfl, him, hsum, hS⟩ := hrel
    have HR := Lib.hid hS
    clear hS
    have ⟨c0, c1, c2, c3, c4, c5, lt⟩ := HR.out.h.pb.plc
    by_cases hlt : i < ls.length
    · have hlt' : (i : Int) < ls.length := by omega
      obtain ⟨bb, ofs, rfl, hbl, hcell⟩ := HX.out.at (by omega)
      have d0 := hcell i hlt
      obtain ⟨y, hy⟩ : ∃ y, y = iN ls i := ⟨_, rfl⟩
      rw [← hy] at d0
      replace d0 := ext_cell HR.out.h.ex d0
      have hbl2 := cell_lt d0
      clear hcell hy
      by_cases hy0 : 0 ≤ y
      · have dy0 : decide (y < 0) = false := decide_eq_false (by omega)
        by_cases hy1 : y < p.n
        · have dy1 : decide (p.n ≤ y) = false := decide_eq_false (by omega)
          by_cases hya : y ∈ la
          · go_wp2_with (go_at_call 11; refine (rhas_any la y _ _ true (hid_yes hya) (by omega) HR.out.ia.is).mono ?_; rintro e wa ⟨rfl, hx⟩; refine Hid.out ?_)
            refine Lib.hid ?_
            have HR2 := Lib.hid (HR.out.ext hx)
            clear hx c0 c1 c2 c3 c4 c5 lt d0 hbl2 HR
            have ⟨c0, c1, c2, c3, c4, c5, lt⟩ := HR2.out.h.pb.plc
            go_wp2
            exact ⟨⟨i + 1, M, la, by go_num, by omega, by omega, HR2.out⟩, by simp [intOf]; omega⟩
          · go_wp2_with (go_at_call 11; refine (rhas_any la y _ _ false (hid_no hya) (by omega) HR.out.ia.is).mono ?_; rintro e wa ⟨rfl, hx⟩; refine Hid.out ?_)
            refine Lib.hid ?_
            have HR2 := Lib.hid (HR.out.ext hx)
            clear hx c0 c1 c2 c3 c4 c5 lt d0 hbl2 HR
            have ⟨c0, c1, c2, c3, c4, c5, lt⟩ := HR2.out.h.pb.plc
            have hyr : InR p y := ⟨hy0, hy1⟩
            have hpr := put_run HP.out HR2.out.h.mg (t := tt) h0 h1 HR2.out.ra hyr
            by_cases hfu : (la.length : Int) = p.r
            · rw [if_pos hfu] at hpr
              obtain ⟨M1, r1, g1, s1⟩ := hpr
              have dr : decide (p.r ≤ (la.length : Int)) = true := decide_eq_true (by omega)
              have HR1 := Lib.hid r1
              have HN := Lib.hid (And.intro g1 s1)
              have HH := Lib.hid HR2.out.h
              clear r1 g1 s1
              go_wp2_with (go_at_call 13; refine (HPT.out y _ (by omega) (by omega)).mono ?_; rintro e w4 ⟨v1, F1, rfl, hx2, hp1, hbn1, hsub1⟩; refine Hid.out ?_)
              refine Lib.hid ?_
              have HOF1 := Lib.hid (fun j (hj : F1 j) => (hsub1 j hj).elim (fun h => h.elim) fun h => (.inr (Nat.le_trans HH.out.m.top h) : j < lo ∨ hi ≤ j))
              have HH2 := Lib.hid (HH.out.ext hx2)
              have HP1 := Lib.hid hp1
              have HBN1 := Lib.hid hbn1
              have HRb := Lib.hid (HR2.out.ext hx2)
              clear hx2 hp1 hbn1 hsub1
              go_wp2_with (go_at_call 14; refine (cap_int HH2.out.m 0 1#64 (by omega) (by rw [HH2.out.mg.n]; omega) (Lib.hid HH2.out.mg.e)).mono ?_; rintro e w5 ⟨rfl, hx3⟩; refine Hid.out ?_)
              refine Lib.hid ?_
              have HH3 := Lib.hid (HH2.out.ext hx3)
              replace HP1 := Lib.hid (HP1.out.agr (Agr.of_ext hx3 HBN1.out))
              replace HBN1 := Lib.hid (HBN1.out.ext hx3.size)
              have HRc := Lib.hid (HRb.out.ext hx3)
              clear hx3
              go_wp2_with (go_at_call 12; refine (runI_any HR1.out 9 (by omega) (by omega) F1 v1 w5 HP1.out HBN1.out HOF1.out HH3.out.m).mono ?_; rintro e w6 ⟨rfl, hm4, hf4⟩; refine Hid.out ?_)
              refine Lib.hid ?_
              have HR8 := Lib.hid (HRc.out.same HP.out h0 h1 hm4 hf4 HN.out.1 hlo1 hhb HN.out.2)
              clear hm4 hf4 HP1 HBN1 HOF1 HR2 HRb HRc HH HH2 HH3 HR1 HN c0 c1 c2 c3 c4 c5 lt
              have ⟨c0, c1, c2, c3, c4, c5, lt⟩ := HR8.out.h.pb.plc
              obtain ⟨vra, vrc, rfl⟩ := HR8.out.ia.slice
              go_wp2
              exact ⟨⟨i + 1, M1, la, by go_num, by omega, by omega, HR8.out⟩, by simp [intOf]; omega⟩
            · have hrl := HR2.out.ra.len
              rw [if_neg hfu] at hpr
              obtain ⟨M1, r1, g1, t1, s1⟩ := hpr
              have dr : decide (p.r ≤ (la.length : Int)) = false := decide_eq_false (by omega)
              have HR1 := Lib.hid r1
              have HN := Lib.hid (And.intro g1 (And.intro t1 s1))
              have HH := Lib.hid HR2.out.h
              clear r1 g1 s1 t1
              go_wp2_with (go_at_call 13; refine (HPT.out y _ (by omega) (by omega)).mono ?_; rintro e w4 ⟨v1, F1, rfl, hx2, hp1, hbn1, hsub1⟩; refine Hid.out ?_)
              refine Lib.hid ?_
              have HOF1 := Lib.hid (fun j (hj : F1 j) => (hsub1 j hj).elim (fun h => h.elim) fun h => (.inr (Nat.le_trans HH.out.m.top h) : j < lo ∨ hi ≤ j))
              have HH2 := Lib.hid (HH.out.ext hx2)
              have HP1 := Lib.hid hp1
              have HBN1 := Lib.hid hbn1
              have HRb := Lib.hid (HR2.out.ext hx2)
              clear hx2 hp1 hbn1 hsub1
              go_wp2_with (go_at_call 14; refine (cap_int HH2.out.m 0 1#64 (by omega) (by rw [HH2.out.mg.n]; omega) (Lib.hid HH2.out.mg.e)).mono ?_; rintro e w5 ⟨rfl, hx3⟩; refine Hid.out ?_)
              refine Lib.hid ?_
              have HH3 := Lib.hid (HH2.out.ext hx3)
              replace HP1 := Lib.hid (HP1.out.agr (Agr.of_ext hx3 HBN1.out))
              replace HBN1 := Lib.hid (HBN1.out.ext hx3.size)
              have HRc := Lib.hid (HRb.out.ext hx3)
              clear hx3
              go_wp2_with (go_at_call 12; refine (runI_any HR1.out 9 (by omega) (by omega) F1 v1 w5 HP1.out HBN1.out HOF1.out HH3.out.m).mono ?_; rintro e w6 ⟨rfl, hm4, hf4⟩; refine Hid.out ?_)
              refine Lib.hid ?_
              have HR8 := Lib.hid (HRc.out.put HP.out h0 h1 hm4 hf4 HN.out.1 hlo1 hhb HN.out.2.1 HN.out.2.2 hya)
              clear hm4 hf4 HP1 HBN1 HOF1 HR2 HRb HRc HH HH2 HH3 HR1 HN c0 c1 c2 c3 c4 c5 lt
              have ⟨c0, c1, c2, c3, c4, c5, lt⟩ := HR8.out.h.pb.plc
              obtain ⟨vra, vrc, rfl⟩ := HR8.out.ia.slice
              go_wp2_with (at_builtin; refine wpList_irow rfl (.tmp 100) (.tmp 102) rfl base _ la rfl (HR8.out.ia.ext (ext_alloc _ (ext_refl w6))) ⟨w6.heap.size, 0, none⟩ y rfl (newy _ _ _ _ rfl) (by omega) (by have := HR8.out.bs; simp; omega) ?_; intro v7 w7 hv7 hg7 hn7; refine Hid.out ?_)
              refine Lib.hid ?_
              have HR9 := Lib.hid ((HR8.out.ext (ext_alloc (.cells #[.int .i64 y] 3) (ext_refl w6))).row hhb hbs hv7 hg7)
              obtain ⟨v7a, v7c, rfl⟩ := hv7.slice
              clear hv7 hg7 hn7 HR8 c0 c1 c2 c3 c4 c5 lt
              go_wp2
              exact ⟨⟨i + 1, M1, _, by go_num, by omega, by simp; omega, HR9.out⟩, by simp [intOf]; omega⟩
        · have dy1 : decide (p.n ≤ y) = true := decide_eq_true (by omega)
          clear hbl2
          go_wp2
          exact ⟨⟨i + 1, M, la, by go_num, by omega, by omega, HR.out⟩, by simp [intOf]; omega⟩
      · have dy0 : decide (y < 0) = true := decide_eq_true (by omega)
        clear hbl2
        go_wp2
        exact ⟨⟨i + 1, M, la, by go_num, by omega, by omega, HR.out⟩, by simp [intOf]; omega⟩
    · have hnl4 : ls.length ≤ i := by omega
      have hnl5 : ¬ (i : Int) < ls.length := by omega
      have HBO : Hid (BsO lo hi wr (.slice a02 hl0.length cap2) hl0) := Lib.hid ⟨HXB.out.ext HR.out.h.ex, fun h g hg => .inl (Nat.lt_trans (HXB.out.own_lt h hg) hlo1)⟩
      have HD0 : Hid (HdIn p M 0 hl0 []) := Lib.hid (HdIn.nil HP.out HR.out.hz hl0)
      have hr0 := HR.out
      have HR0 : Hid (SwIn p tt lo hi L base w M la la TT u9 (hzW p M) wr) := Lib.hid { hr0 with hz := fun _ _ => rfl }
      have hlal : la.length ≤ 40 := by omega
      clear hr0 HR
      go_wp2
      clear hlt hnl4 hnl5 him hsum c0 c1 c2 c3 c4 c5 lt HX hcap d1 d2
      go_loopw [2, 15, 16] (fun vh vs vi wr => SwRel2 p tt lo hi L base w la u9 TT hl0.length vh vs vi wr) (fun _ _ vi _ => (hl0.length - intOf vi).toNat)
      case atStart => exact ⟨0, M, hl0, [], rfl, Nat.zero_le _, rfl, rfl, HBO.out, HD0.out, HR0.out⟩
      case round =>
        clear HBO HD0 HR0
        obtain ⟨n, M, hl, hs, rfl, hnm, hlen, rfl, hB, hD, hS⟩ := hrel
        have HR := Lib.hid hS
        have HB := Lib.hid hB
        have HD := Lib.hid hD
        have hsl := hD.hz.len
        have hLEN := Lib.hid hlen
        have hll := hlen
        have hl40 : hl.length ≤ 40 := by omega
        have hnl : n ≤ hl.length := by omega
        clear hll hlen
        obtain ⟨a2, cp2, rfl, hcp2, hcl⟩ := hB.bs
        clear hS hB hD
        have ⟨c0, c1, c2, c3, c4, c5, lt⟩ := HR.out.h.pb.plc
        by_cases hlt : n < hl.length
        · have hlt' : (n : Int) < hl.length := by omega
          obtain ⟨bb, ofs, rfl, hbl, hcell⟩ := hcl (by omega)
          clear hcl
          have d0 := hcell n hlt
          have hn40' : n < 40 := by omega
          have hnp : (n : Int) < p.n := by have := hLEN.out; omega
          by_cases hv : bN hl n = true
          · rw [hv] at d0
            by_cases hl3 : (hs.length : Int) < 3 * p.t
            · clear hcell
              have hS : ∀ W, Calls Tryz.prog 16 #[plV p, .int .i64 ((hs.length / 3 : Nat) : Int), .int .i64 ((hs.length % 3 : Nat) : Int), .int .i64 (n : Int)] W (RetP (PT kN (setT (p.hazF ((hs.length / 3 : Nat) : Int) ((hs.length % 3 : Nat) : Int)) (nameW (n : Int)))) noF W) := fun W => hset_PT p _ _ (n : Int) (by omega) (by omega) W
              have hi3 : ((hs.length / 3 : Nat) : Int) < p.t := by omega
              have hi4 : ((hs.length % 3 : Nat) : Int) < 3 := by omega
              have hi5 : (3 * ((hs.length / 3 : Nat) : Int) + ((hs.length % 3 : Nat) : Int)).toNat = hs.length := by omega
              have hRn : ∀ (F1 : Nat → Prop) v1 w3, PT kN (setT (p.hazF ((hs.length / 3 : Nat) : Int) ((hs.length % 3 : Nat) : Int)) (nameW (n : Int))) F1 v1 w3 → Bnd F1 w3 → (∀ j, F1 j → j < lo ∨ hi ≤ j) → MemIn lo hi L M w3 → Calls Tryz.prog 15 #[v1, .pointer (some ⟨L.bm, 0, none⟩), .agg #[.int .i64 0, .int .u64 (U 1#64)], .int .i64 9] w3 (RetSetH p lo hi L M hs.length (nameW (n : Int)) w3) := fun F1 v1 w3 a b c d => by
                have h := runSetH p HP.out HR.out.h.mg ((hs.length / 3 : Nat) : Int) ((hs.length % 3 : Nat) : Int) (nameW (n : Int)) (by omega) hi3 (by omega) hi4 F1 v1 w3 a b c d
                rwa [hi5] at h
              have hdiv : Int.tdiv (hs.length : Int) 3 = ((hs.length / 3 : Nat) : Int) := by rw [Int.tdiv_eq_ediv_of_nonneg (by omega)]; omega
              have hmod : Int.tmod (hs.length : Int) 3 = ((hs.length % 3 : Nat) : Int) := by rw [Int.tmod_eq_emod_of_nonneg (by omega)]; omega
              replace hS := Lib.hid hS
              replace hRn := Lib.hid hRn
              clear hi3 hi4 hi5
              have hw3 : wrap64 ((hs.length / 3 : Nat) : Int) = ((hs.length / 3 : Nat) : Int) := wr3 hs.length (by omega)
              generalize hs.length / 3 = i3 at hdiv hS hRn hw3
              generalize hs.length % 3 = i4 at hmod hS hRn
              have dset : decide ((hs.length : Int) < 3 * p.t) = true := decide_eq_true hl3
              have HH := Lib.hid HR.out.h
              go_wp2_with (go_at_call 16; refine (hS.out _).mono ?_; rintro e w2 ⟨v1, F1, rfl, hx2, hp1, hbn1, hsub1⟩; refine Hid.out ?_)
              refine Lib.hid ?_
              have HOF1 := Lib.hid (fun j (hj : F1 j) => (hsub1 j hj).elim (fun h => h.elim) fun h => (.inr (Nat.le_trans HH.out.m.top h) : j < lo ∨ hi ≤ j))
              have HH2 := Lib.hid (HH.out.ext hx2)
              have HP1 := Lib.hid hp1
              have HBN1 := Lib.hid hbn1
              have HRb := Lib.hid (HR.out.ext hx2)
              have HBb := Lib.hid (HB.out.ext hx2)
              clear hx2 hp1 hbn1 hsub1 hw3 hdiv hmod
              go_wp2_with (go_at_call 14; refine (cap_int HH2.out.m 0 1#64 (by omega) (by rw [HH2.out.mg.n]; omega) (Lib.hid HH2.out.mg.e)).mono ?_; rintro e w3 ⟨rfl, hx3⟩; refine Hid.out ?_)
              refine Lib.hid ?_
              have HH3 := Lib.hid (HH2.out.ext hx3)
              replace HP1 := Lib.hid (HP1.out.agr (Agr.of_ext hx3 HBN1.out))
              replace HBN1 := Lib.hid (HBN1.out.ext hx3.size)
              have HRc := Lib.hid (HRb.out.ext hx3)
              have HBc := Lib.hid (HBb.out.ext hx3)
              clear hx3
              go_wp2_with (go_at_call 15; refine (hRn.out F1 v1 w3 HP1.out HBN1.out HOF1.out HH3.out.m).mono ?_; rintro e w4 ⟨M1, rfl, hm4, hf4, hz4⟩; refine Hid.out ?_)
              refine Lib.hid ?_
              have hr4 := HRc.out.set HP.out h0 h1 hm4 hf4 hz4 hlo1 hhb
              have HR8 := Lib.hid (show SwIn p tt lo hi L base w M1 la la TT u9 (hzW p M1) w4 from { hr4 with hz := fun _ _ => rfl })
              have HB8 := Lib.hid (HBc.out.fr hf4)
              have HD8 := Lib.hid (HD.out.set (M' := M1) hnp hv hl3 (fun i hi => hz4.hz i hi))
              clear hm4 hf4 hz4 hr4 HP1 HBN1 HOF1 HR HRb HRc HBb HBc HH HH2 HH3 hS hRn HB HD c0 c1 c2 c3 c4 c5 lt d0
              go_wp2
              exact ⟨⟨n + 1, M1, hl, hs ++ [(n : Int)], by go_num, by have := hLEN.out; omega, hLEN.out, (by simp only [List.length_append, List.length_cons, List.length_nil]; go_num), HB8.out, HD8.out, HR8.out⟩, by have := hLEN.out; simp [intOf]; omega⟩
            · have dset : decide ((hs.length : Int) < 3 * p.t) = false := decide_eq_false hl3
              by_cases hcp : cp2 = n + 1
              · have hcp0 : hl.length - (n + 1) = 0 := by omega
                have H1 := Lib.hid (fun (X : World) (hx : Ext wr X) (i : Nat) (hi : i < n) => (show X.cell? ((⟨bb, ofs, none⟩ : Addr).add i) = some (.bool (bN (hl.take n) i)) by rw [add_at', bN_take _ _ _ hi]; exact ext_cell hx (hcell i (by omega))))
                have H2 := Lib.hid (fun (ad : Addr) (ha : ad = ⟨bb, ofs + (n + 1), none⟩ ∨ hl.length - (n + 1) = 0) (X : World) (hx : Ext wr X) (i : Nat) (hi : i < hl.length - (n + 1)) => (show X.cell? (ad.add i) = some (.bool (bN (hl.drop (n + 1)) i)) by
                  rcases ha with rfl | h0
                  · rw [add_at', bN_drop]
                    have h := ext_cell hx (hcell (n + 1 + i) (by omega))
                    rw [← Nat.add_assoc] at h
                    exact h
                  · omega))
                have HRX := Lib.hid (fun (X : World) (hx : Ext wr X) => HR.out.ext hx)
                have hwh : hi ≤ wr.heap.size := by have := HR.out.bs; omega
                clear hcell
                go_wp2
                refine wp_region_ways (fun x => ∃ s, x = over wr s) (by kernel_rfl) (over_of (ext_drew (ext_refl wr))) ?_
                refine ways_reads [1, 2, 3, 6, 7, 8, 9] (by kernel_rfl) ?_
                simp only [pickL, List.map_cons, List.map_nil, List.getD_cons_zero, List.getD_cons_succ]
                repeat (go_big_quiet_step (fail))
                refine wpQuiet_nil ?_
                clear c0 c1 c2 c3 c4 c5 lt d0
                have HT := Lib.hid ((TwoB.nil wr).ext (ext_drew (ext_refl wr)))
                generalize wr.drew = X0 at HT ⊢
                refine ways_fork 0 (by kernel_rfl) ?_ (ways_act 5 (by kernel_rfl) ?_)
                · simp only [pickL, List.map_cons, List.map_nil, List.getD_cons_zero]
                  go_wp2
                  replace HT := Lib.hid (show TwoB wr [] ([] : List Bool) (.slice (some ⟨X0.heap.size, 0, none⟩) 0 0) (.slice none 0 0) (X0.alloc (.cells #[] 4)) from HT.out.new [] _ rfl (by simp))
                  refine mixQ_mk (over_of HT.out.ex) ?_
                  generalize X0.alloc (.cells #[] 4) = X1 at HT ⊢
                  generalize X0.heap.size = b0 at HT ⊢
                  refine ways_fork 4 (by kernel_rfl) ?_ (ways_act 5 (by kernel_rfl) ?_)
                  · simp only [pickL, List.map_cons, List.map_nil, List.getD_cons_zero, List.getD_cons_succ]
                    refine wpList_growB rfl (.tmp 142) (.tmp 145) rfl [] ([] : List Bool) (hl.take n) _ _ HT.out rfl ⟨bb, ofs, none⟩ n _ rfl (by simp; omega) (H1.out _ HT.out.ex) (by simp; omega) ?_
                    intro v1 X2 hT
                    replace HT := Lib.hid (show TwoB wr (hl.take n) ([] : List Bool) v1 (.slice none 0 0) X2 from hT)
                    clear hT
                    go_wp2
                    refine mixQ_mk (over_of HT.out.ex) ?_
                    refine ways_act 5 (by kernel_rfl) ?_
                    simp only [pickL, List.map_cons, List.map_nil, List.getD_cons_zero, List.getD_cons_succ]
                    go_wp2
                    replace HT := Lib.hid (show TwoB wr (hl.take n) [false] v1 (.slice (some ⟨X2.heap.size, 0, none⟩) 1 1) (X2.alloc (.cells #[.bool false] 4)) from (HT.out.swap.new [false] _ rfl (by simp)).swap)
                    refine mixQ_mk (over_of HT.out.ex) ?_
                    generalize X2.alloc (.cells #[.bool false] 4) = X3 at HT ⊢
                    generalize X2.heap.size = b2 at HT ⊢
                    refine ways_act 10 (by kernel_rfl) ?_
                    simp only [pickL, List.map_cons, List.map_nil, List.getD_cons_zero, List.getD_cons_succ]
                    refine wpList_growB rfl (.tmp 147) (.tmp 151) rfl [false] (hl.take n) (hl.drop (n + 1)) _ _ HT.out.swap rfl ⟨bb, ofs, none⟩ 0 _ rfl (by simp; omega) (fun i hi => absurd hi (Nat.not_lt_zero _)) (by simp) ?_
                    intro v3 X4 hT
                    replace HT := Lib.hid (show TwoB wr (hl.take n) ([false] ++ hl.drop (n + 1)) v1 v3 X4 from hT.swap)
                    clear hT
                    go_wp2
                    refine mixQ_mk (over_of HT.out.ex) ?_
                    refine ways_act 11 (by kernel_rfl) ?_
                    simp only [pickL, List.map_cons, List.map_nil, List.getD_cons_zero, List.getD_cons_succ]
                    obtain ⟨⟨a9, q9, rfl, _, hr9⟩, _⟩ := bs_of_own HT.out.ob
                    obtain ⟨b9, o9, rfl, _, hc9⟩ := hr9 (by simp)
                    refine wpList_growB rfl (.tmp 146) (.tmp 152) rfl (hl.take n) ([false] ++ hl.drop (n + 1)) ([false] ++ hl.drop (n + 1)) _ _ HT.out rfl ⟨b9, o9, none⟩ _ _ rfl rfl (fun i hi => by rw [add_at']; exact hc9 i hi) (by simp; omega) ?_
                    intro vZ XZ hT
                    rw [setB_eq hl n hlt] at hT
                    have HTZ := Lib.hid hT
                    clear hT hc9 hr9 HT
                    go_wp2
                    refine mixQ_mk (over_of HTZ.out.ex) ?_
                    refine ways_reads [12] (by kernel_rfl) ?_
                    simp only [pickL, List.map_cons, List.map_nil, List.getD_cons_zero, List.getD_cons_succ]
                    repeat (go_big_quiet_step (fail))
                    refine wpQuiet_nil ?_
                    refine ways_end (by kernel_rfl) ?_
                    have HRZ := Lib.hid (HRX.out _ HTZ.out.ex)
                    go_wp2
                    exact ⟨⟨n + 1, M, hl.set n false, hs, by go_num, by have := hLEN.out; omega, by simp; exact hLEN.out, rfl, ⟨(bs_of_own HTZ.out.oa).1, fun _ g hg => .inr (Nat.le_trans hwh ((bs_of_own HTZ.out.oa).2 g hg))⟩, HD.out.skip hlt, HRZ.out⟩, by have := hLEN.out; simp [intOf]; omega⟩
                  · simp only [pickL, List.map_cons, List.map_nil, List.getD_cons_zero, List.getD_cons_succ]
                    go_wp2
                    replace HT := Lib.hid (show TwoB wr ([] : List Bool) [false] (.slice (some ⟨b0, 0, none⟩) 0 0) (.slice (some ⟨X1.heap.size, 0, none⟩) 1 1) (X1.alloc (.cells #[.bool false] 4)) from (HT.out.swap.new [false] _ rfl (by simp)).swap)
                    refine mixQ_mk (over_of HT.out.ex) ?_
                    generalize X1.alloc (.cells #[.bool false] 4) = X2 at HT ⊢
                    generalize X1.heap.size = b1 at HT ⊢
                    refine ways_act 4 (by kernel_rfl) ?_
                    simp only [pickL, List.map_cons, List.map_nil, List.getD_cons_zero, List.getD_cons_succ]
                    refine wpList_growB rfl (.tmp 142) (.tmp 145) rfl [] [false] (hl.take n) _ _ HT.out rfl ⟨bb, ofs, none⟩ n _ rfl (by simp; omega) (H1.out _ HT.out.ex) (by simp; omega) ?_
                    intro v2 X3 hT
                    replace HT := Lib.hid (show TwoB wr (hl.take n) [false] v2 (.slice (some ⟨b1, 0, none⟩) 1 1) X3 from hT)
                    clear hT
                    go_wp2
                    refine mixQ_mk (over_of HT.out.ex) ?_
                    refine ways_act 10 (by kernel_rfl) ?_
                    simp only [pickL, List.map_cons, List.map_nil, List.getD_cons_zero, List.getD_cons_succ]
                    refine wpList_growB rfl (.tmp 147) (.tmp 151) rfl [false] (hl.take n) (hl.drop (n + 1)) _ _ HT.out.swap rfl ⟨bb, ofs, none⟩ 0 _ rfl (by simp; omega) (fun i hi => absurd hi (Nat.not_lt_zero _)) (by simp) ?_
                    intro v3 X4 hT
                    replace HT := Lib.hid (show TwoB wr (hl.take n) ([false] ++ hl.drop (n + 1)) v2 v3 X4 from hT.swap)
                    clear hT
                    go_wp2
                    refine mixQ_mk (over_of HT.out.ex) ?_
                    refine ways_act 11 (by kernel_rfl) ?_
                    simp only [pickL, List.map_cons, List.map_nil, List.getD_cons_zero, List.getD_cons_succ]
                    obtain ⟨⟨a9, q9, rfl, _, hr9⟩, _⟩ := bs_of_own HT.out.ob
                    obtain ⟨b9, o9, rfl, _, hc9⟩ := hr9 (by simp)
                    refine wpList_growB rfl (.tmp 146) (.tmp 152) rfl (hl.take n) ([false] ++ hl.drop (n + 1)) ([false] ++ hl.drop (n + 1)) _ _ HT.out rfl ⟨b9, o9, none⟩ _ _ rfl rfl (fun i hi => by rw [add_at']; exact hc9 i hi) (by simp; omega) ?_
                    intro vZ XZ hT
                    rw [setB_eq hl n hlt] at hT
                    have HTZ := Lib.hid hT
                    clear hT hc9 hr9 HT
                    go_wp2
                    refine mixQ_mk (over_of HTZ.out.ex) ?_
                    refine ways_reads [12] (by kernel_rfl) ?_
                    simp only [pickL, List.map_cons, List.map_nil, List.getD_cons_zero, List.getD_cons_succ]
                    repeat (go_big_quiet_step (fail))
                    refine wpQuiet_nil ?_
                    refine ways_end (by kernel_rfl) ?_
                    have HRZ := Lib.hid (HRX.out _ HTZ.out.ex)
                    go_wp2
                    exact ⟨⟨n + 1, M, hl.set n false, hs, by go_num, by have := hLEN.out; omega, by simp; exact hLEN.out, rfl, ⟨(bs_of_own HTZ.out.oa).1, fun _ g hg => .inr (Nat.le_trans hwh ((bs_of_own HTZ.out.oa).2 g hg))⟩, HD.out.skip hlt, HRZ.out⟩, by have := hLEN.out; simp [intOf]; omega⟩
                · simp only [pickL, List.map_cons, List.map_nil, List.getD_cons_zero, List.getD_cons_succ]
                  go_wp2
                  replace HT := Lib.hid (show TwoB wr ([] : List Bool) [false] (.slice none 0 0) (.slice (some ⟨X0.heap.size, 0, none⟩) 1 1) (X0.alloc (.cells #[.bool false] 4)) from (HT.out.swap.new [false] _ rfl (by simp)).swap)
                  refine mixQ_mk (over_of HT.out.ex) ?_
                  generalize X0.alloc (.cells #[.bool false] 4) = X1 at HT ⊢
                  generalize X0.heap.size = b0 at HT ⊢
                  refine ways_act 0 (by kernel_rfl) ?_
                  simp only [pickL, List.map_cons, List.map_nil, List.getD_cons_zero]
                  go_wp2
                  replace HT := Lib.hid (show TwoB wr [] [false] (.slice (some ⟨X1.heap.size, 0, none⟩) 0 0) (.slice (some ⟨b0, 0, none⟩) 1 1) (X1.alloc (.cells #[] 4)) from HT.out.new [] _ rfl (by simp))
                  refine mixQ_mk (over_of HT.out.ex) ?_
                  generalize X1.alloc (.cells #[] 4) = X2 at HT ⊢
                  generalize X1.heap.size = b1 at HT ⊢
                  refine ways_act 4 (by kernel_rfl) ?_
                  simp only [pickL, List.map_cons, List.map_nil, List.getD_cons_zero, List.getD_cons_succ]
                  refine wpList_growB rfl (.tmp 142) (.tmp 145) rfl [] [false] (hl.take n) _ _ HT.out rfl ⟨bb, ofs, none⟩ n _ rfl (by simp; omega) (H1.out _ HT.out.ex) (by simp; omega) ?_
                  intro v2 X3 hT
                  replace HT := Lib.hid (show TwoB wr (hl.take n) [false] v2 (.slice (some ⟨b0, 0, none⟩) 1 1) X3 from hT)
                  clear hT
                  go_wp2
                  refine mixQ_mk (over_of HT.out.ex) ?_
                  refine ways_act 10 (by kernel_rfl) ?_
                  simp only [pickL, List.map_cons, List.map_nil, List.getD_cons_zero, List.getD_cons_succ]
                  refine wpList_growB rfl (.tmp 147) (.tmp 151) rfl [false] (hl.take n) (hl.drop (n + 1)) _ _ HT.out.swap rfl ⟨bb, ofs, none⟩ 0 _ rfl (by simp; omega) (fun i hi => absurd hi (Nat.not_lt_zero _)) (by simp) ?_
                  intro v3 X4 hT
                  replace HT := Lib.hid (show TwoB wr (hl.take n) ([false] ++ hl.drop (n + 1)) v2 v3 X4 from hT.swap)
                  clear hT
                  go_wp2
                  refine mixQ_mk (over_of HT.out.ex) ?_
                  refine ways_act 11 (by kernel_rfl) ?_
                  simp only [pickL, List.map_cons, List.map_nil, List.getD_cons_zero, List.getD_cons_succ]
                  obtain ⟨⟨a9, q9, rfl, _, hr9⟩, _⟩ := bs_of_own HT.out.ob
                  obtain ⟨b9, o9, rfl, _, hc9⟩ := hr9 (by simp)
                  refine wpList_growB rfl (.tmp 146) (.tmp 152) rfl (hl.take n) ([false] ++ hl.drop (n + 1)) ([false] ++ hl.drop (n + 1)) _ _ HT.out rfl ⟨b9, o9, none⟩ _ _ rfl rfl (fun i hi => by rw [add_at']; exact hc9 i hi) (by simp; omega) ?_
                  intro vZ XZ hT
                  rw [setB_eq hl n hlt] at hT
                  have HTZ := Lib.hid hT
                  clear hT hc9 hr9 HT
                  go_wp2
                  refine mixQ_mk (over_of HTZ.out.ex) ?_
                  refine ways_reads [12] (by kernel_rfl) ?_
                  simp only [pickL, List.map_cons, List.map_nil, List.getD_cons_zero, List.getD_cons_succ]
                  repeat (go_big_quiet_step (fail))
                  refine wpQuiet_nil ?_
                  refine ways_end (by kernel_rfl) ?_
                  have HRZ := Lib.hid (HRX.out _ HTZ.out.ex)
                  go_wp2
                  exact ⟨⟨n + 1, M, hl.set n false, hs, by go_num, by have := hLEN.out; omega, by simp; exact hLEN.out, rfl, ⟨(bs_of_own HTZ.out.oa).1, fun _ g hg => .inr (Nat.le_trans hwh ((bs_of_own HTZ.out.oa).2 g hg))⟩, HD.out.skip hlt, HRZ.out⟩, by have := hLEN.out; simp [intOf]; omega⟩
              · have H1 := Lib.hid (fun (X : World) (hx : Ext wr X) (i : Nat) (hi : i < n) => (show X.cell? ((⟨bb, ofs, none⟩ : Addr).add i) = some (.bool (bN (hl.take n) i)) by rw [add_at', bN_take _ _ _ hi]; exact ext_cell hx (hcell i (by omega))))
                have H2 := Lib.hid (fun (ad : Addr) (ha : ad = ⟨bb, ofs + (n + 1), none⟩ ∨ hl.length - (n + 1) = 0) (X : World) (hx : Ext wr X) (i : Nat) (hi : i < hl.length - (n + 1)) => (show X.cell? (ad.add i) = some (.bool (bN (hl.drop (n + 1)) i)) by
                  rcases ha with rfl | h0
                  · rw [add_at', bN_drop]
                    have h := ext_cell hx (hcell (n + 1 + i) (by omega))
                    rw [← Nat.add_assoc] at h
                    exact h
                  · omega))
                have HRX := Lib.hid (fun (X : World) (hx : Ext wr X) => HR.out.ext hx)
                have hwh : hi ≤ wr.heap.size := by have := HR.out.bs; omega
                clear hcell
                go_wp2
                refine wp_region_ways (fun x => ∃ s, x = over wr s) (by kernel_rfl) (over_of (ext_drew (ext_refl wr))) ?_
                refine ways_reads [1, 2, 3, 6, 7, 8, 9] (by kernel_rfl) ?_
                simp only [pickL, List.map_cons, List.map_nil, List.getD_cons_zero, List.getD_cons_succ]
                repeat (go_big_quiet_step (fail))
                refine wpQuiet_nil ?_
                clear c0 c1 c2 c3 c4 c5 lt d0
                have HT := Lib.hid ((TwoB.nil wr).ext (ext_drew (ext_refl wr)))
                generalize wr.drew = X0 at HT ⊢
                refine ways_fork 0 (by kernel_rfl) ?_ (ways_act 5 (by kernel_rfl) ?_)
                · simp only [pickL, List.map_cons, List.map_nil, List.getD_cons_zero]
                  go_wp2
                  replace HT := Lib.hid (show TwoB wr [] ([] : List Bool) (.slice (some ⟨X0.heap.size, 0, none⟩) 0 0) (.slice none 0 0) (X0.alloc (.cells #[] 4)) from HT.out.new [] _ rfl (by simp))
                  refine mixQ_mk (over_of HT.out.ex) ?_
                  generalize X0.alloc (.cells #[] 4) = X1 at HT ⊢
                  generalize X0.heap.size = b0 at HT ⊢
                  refine ways_fork 4 (by kernel_rfl) ?_ (ways_act 5 (by kernel_rfl) ?_)
                  · simp only [pickL, List.map_cons, List.map_nil, List.getD_cons_zero, List.getD_cons_succ]
                    refine wpList_growB rfl (.tmp 142) (.tmp 145) rfl [] ([] : List Bool) (hl.take n) _ _ HT.out rfl ⟨bb, ofs, none⟩ n _ rfl (by simp; omega) (H1.out _ HT.out.ex) (by simp; omega) ?_
                    intro v1 X2 hT
                    replace HT := Lib.hid (show TwoB wr (hl.take n) ([] : List Bool) v1 (.slice none 0 0) X2 from hT)
                    clear hT
                    go_wp2
                    refine mixQ_mk (over_of HT.out.ex) ?_
                    refine ways_act 5 (by kernel_rfl) ?_
                    simp only [pickL, List.map_cons, List.map_nil, List.getD_cons_zero, List.getD_cons_succ]
                    go_wp2
                    replace HT := Lib.hid (show TwoB wr (hl.take n) [false] v1 (.slice (some ⟨X2.heap.size, 0, none⟩) 1 1) (X2.alloc (.cells #[.bool false] 4)) from (HT.out.swap.new [false] _ rfl (by simp)).swap)
                    refine mixQ_mk (over_of HT.out.ex) ?_
                    generalize X2.alloc (.cells #[.bool false] 4) = X3 at HT ⊢
                    generalize X2.heap.size = b2 at HT ⊢
                    refine ways_act 10 (by kernel_rfl) ?_
                    simp only [pickL, List.map_cons, List.map_nil, List.getD_cons_zero, List.getD_cons_succ]
                    refine wpList_growB rfl (.tmp 147) (.tmp 151) rfl [false] (hl.take n) (hl.drop (n + 1)) _ _ HT.out.swap rfl ⟨bb, ofs + (n + 1), none⟩ (hl.length - (n + 1)) _ rfl (by simp) (H2.out _ (.inl rfl) _ HT.out.ex) (by simp; omega) ?_
                    intro v3 X4 hT
                    replace HT := Lib.hid (show TwoB wr (hl.take n) ([false] ++ hl.drop (n + 1)) v1 v3 X4 from hT.swap)
                    clear hT
                    go_wp2
                    refine mixQ_mk (over_of HT.out.ex) ?_
                    refine ways_act 11 (by kernel_rfl) ?_
                    simp only [pickL, List.map_cons, List.map_nil, List.getD_cons_zero, List.getD_cons_succ]
                    obtain ⟨⟨a9, q9, rfl, _, hr9⟩, _⟩ := bs_of_own HT.out.ob
                    obtain ⟨b9, o9, rfl, _, hc9⟩ := hr9 (by simp)
                    refine wpList_growB rfl (.tmp 146) (.tmp 152) rfl (hl.take n) ([false] ++ hl.drop (n + 1)) ([false] ++ hl.drop (n + 1)) _ _ HT.out rfl ⟨b9, o9, none⟩ _ _ rfl rfl (fun i hi => by rw [add_at']; exact hc9 i hi) (by simp; omega) ?_
                    intro vZ XZ hT
                    rw [setB_eq hl n hlt] at hT
                    have HTZ := Lib.hid hT
                    clear hT hc9 hr9 HT
                    go_wp2
                    refine mixQ_mk (over_of HTZ.out.ex) ?_
                    refine ways_reads [12] (by kernel_rfl) ?_
                    simp only [pickL, List.map_cons, List.map_nil, List.getD_cons_zero, List.getD_cons_succ]
                    repeat (go_big_quiet_step (fail))
                    refine wpQuiet_nil ?_
                    refine ways_end (by kernel_rfl) ?_
                    have HRZ := Lib.hid (HRX.out _ HTZ.out.ex)
                    go_wp2
                    exact ⟨⟨n + 1, M, hl.set n false, hs, by go_num, by have := hLEN.out; omega, by simp; exact hLEN.out, rfl, ⟨(bs_of_own HTZ.out.oa).1, fun _ g hg => .inr (Nat.le_trans hwh ((bs_of_own HTZ.out.oa).2 g hg))⟩, HD.out.skip hlt, HRZ.out⟩, by have := hLEN.out; simp [intOf]; omega⟩
                  · simp only [pickL, List.map_cons, List.map_nil, List.getD_cons_zero, List.getD_cons_succ]
                    go_wp2
                    replace HT := Lib.hid (show TwoB wr ([] : List Bool) [false] (.slice (some ⟨b0, 0, none⟩) 0 0) (.slice (some ⟨X1.heap.size, 0, none⟩) 1 1) (X1.alloc (.cells #[.bool false] 4)) from (HT.out.swap.new [false] _ rfl (by simp)).swap)
                    refine mixQ_mk (over_of HT.out.ex) ?_
                    generalize X1.alloc (.cells #[.bool false] 4) = X2 at HT ⊢
                    generalize X1.heap.size = b1 at HT ⊢
                    refine ways_act 4 (by kernel_rfl) ?_
                    simp only [pickL, List.map_cons, List.map_nil, List.getD_cons_zero, List.getD_cons_succ]
                    refine wpList_growB rfl (.tmp 142) (.tmp 145) rfl [] [false] (hl.take n) _ _ HT.out rfl ⟨bb, ofs, none⟩ n _ rfl (by simp; omega) (H1.out _ HT.out.ex) (by simp; omega) ?_
                    intro v2 X3 hT
                    replace HT := Lib.hid (show TwoB wr (hl.take n) [false] v2 (.slice (some ⟨b1, 0, none⟩) 1 1) X3 from hT)
                    clear hT
                    go_wp2
                    refine mixQ_mk (over_of HT.out.ex) ?_
                    refine ways_act 10 (by kernel_rfl) ?_
                    simp only [pickL, List.map_cons, List.map_nil, List.getD_cons_zero, List.getD_cons_succ]
                    refine wpList_growB rfl (.tmp 147) (.tmp 151) rfl [false] (hl.take n) (hl.drop (n + 1)) _ _ HT.out.swap rfl ⟨bb, ofs + (n + 1), none⟩ (hl.length - (n + 1)) _ rfl (by simp) (H2.out _ (.inl rfl) _ HT.out.ex) (by simp; omega) ?_
                    intro v3 X4 hT
                    replace HT := Lib.hid (show TwoB wr (hl.take n) ([false] ++ hl.drop (n + 1)) v2 v3 X4 from hT.swap)
                    clear hT
                    go_wp2
                    refine mixQ_mk (over_of HT.out.ex) ?_
                    refine ways_act 11 (by kernel_rfl) ?_
                    simp only [pickL, List.map_cons, List.map_nil, List.getD_cons_zero, List.getD_cons_succ]
                    obtain ⟨⟨a9, q9, rfl, _, hr9⟩, _⟩ := bs_of_own HT.out.ob
                    obtain ⟨b9, o9, rfl, _, hc9⟩ := hr9 (by simp)
                    refine wpList_growB rfl (.tmp 146) (.tmp 152) rfl (hl.take n) ([false] ++ hl.drop (n + 1)) ([false] ++ hl.drop (n + 1)) _ _ HT.out rfl ⟨b9, o9, none⟩ _ _ rfl rfl (fun i hi => by rw [add_at']; exact hc9 i hi) (by simp; omega) ?_
                    intro vZ XZ hT
                    rw [setB_eq hl n hlt] at hT
                    have HTZ := Lib.hid hT
                    clear hT hc9 hr9 HT
                    go_wp2
                    refine mixQ_mk (over_of HTZ.out.ex) ?_
                    refine ways_reads [12] (by kernel_rfl) ?_
                    simp only [pickL, List.map_cons, List.map_nil, List.getD_cons_zero, List.getD_cons_succ]
                    repeat (go_big_quiet_step (fail))
                    refine wpQuiet_nil ?_
                    refine ways_end (by kernel_rfl) ?_
                    have HRZ := Lib.hid (HRX.out _ HTZ.out.ex)
                    go_wp2
                    exact ⟨⟨n + 1, M, hl.set n false, hs, by go_num, by have := hLEN.out; omega, by simp; exact hLEN.out, rfl, ⟨(bs_of_own HTZ.out.oa).1, fun _ g hg => .inr (Nat.le_trans hwh ((bs_of_own HTZ.out.oa).2 g hg))⟩, HD.out.skip hlt, HRZ.out⟩, by have := hLEN.out; simp [intOf]; omega⟩
                · simp only [pickL, List.map_cons, List.map_nil, List.getD_cons_zero, List.getD_cons_succ]
                  go_wp2
                  replace HT := Lib.hid (show TwoB wr ([] : List Bool) [false] (.slice none 0 0) (.slice (some ⟨X0.heap.size, 0, none⟩) 1 1) (X0.alloc (.cells #[.bool false] 4)) from (HT.out.swap.new [false] _ rfl (by simp)).swap)
                  refine mixQ_mk (over_of HT.out.ex) ?_
                  generalize X0.alloc (.cells #[.bool false] 4) = X1 at HT ⊢
                  generalize X0.heap.size = b0 at HT ⊢
                  refine ways_act 0 (by kernel_rfl) ?_
                  simp only [pickL, List.map_cons, List.map_nil, List.getD_cons_zero]
                  go_wp2
                  replace HT := Lib.hid (show TwoB wr [] [false] (.slice (some ⟨X1.heap.size, 0, none⟩) 0 0) (.slice (some ⟨b0, 0, none⟩) 1 1) (X1.alloc (.cells #[] 4)) from HT.out.new [] _ rfl (by simp))
                  refine mixQ_mk (over_of HT.out.ex) ?_
                  generalize X1.alloc (.cells #[] 4) = X2 at HT ⊢
                  generalize X1.heap.size = b1 at HT ⊢
                  refine ways_act 4 (by kernel_rfl) ?_
                  simp only [pickL, List.map_cons, List.map_nil, List.getD_cons_zero, List.getD_cons_succ]
                  refine wpList_growB rfl (.tmp 142) (.tmp 145) rfl [] [false] (hl.take n) _ _ HT.out rfl ⟨bb, ofs, none⟩ n _ rfl (by simp; omega) (H1.out _ HT.out.ex) (by simp; omega) ?_
                  intro v2 X3 hT
                  replace HT := Lib.hid (show TwoB wr (hl.take n) [false] v2 (.slice (some ⟨b0, 0, none⟩) 1 1) X3 from hT)
                  clear hT
                  go_wp2
                  refine mixQ_mk (over_of HT.out.ex) ?_
                  refine ways_act 10 (by kernel_rfl) ?_
                  simp only [pickL, List.map_cons, List.map_nil, List.getD_cons_zero, List.getD_cons_succ]
                  refine wpList_growB rfl (.tmp 147) (.tmp 151) rfl [false] (hl.take n) (hl.drop (n + 1)) _ _ HT.out.swap rfl ⟨bb, ofs + (n + 1), none⟩ (hl.length - (n + 1)) _ rfl (by simp) (H2.out _ (.inl rfl) _ HT.out.ex) (by simp; omega) ?_
                  intro v3 X4 hT
                  replace HT := Lib.hid (show TwoB wr (hl.take n) ([false] ++ hl.drop (n + 1)) v2 v3 X4 from hT.swap)
                  clear hT
                  go_wp2
                  refine mixQ_mk (over_of HT.out.ex) ?_
                  refine ways_act 11 (by kernel_rfl) ?_
                  simp only [pickL, List.map_cons, List.map_nil, List.getD_cons_zero, List.getD_cons_succ]
                  obtain ⟨⟨a9, q9, rfl, _, hr9⟩, _⟩ := bs_of_own HT.out.ob
                  obtain ⟨b9, o9, rfl, _, hc9⟩ := hr9 (by simp)
                  refine wpList_growB rfl (.tmp 146) (.tmp 152) rfl (hl.take n) ([false] ++ hl.drop (n + 1)) ([false] ++ hl.drop (n + 1)) _ _ HT.out rfl ⟨b9, o9, none⟩ _ _ rfl rfl (fun i hi => by rw [add_at']; exact hc9 i hi) (by simp; omega) ?_
                  intro vZ XZ hT
                  rw [setB_eq hl n hlt] at hT
                  have HTZ := Lib.hid hT
                  clear hT hc9 hr9 HT
                  go_wp2
                  refine mixQ_mk (over_of HTZ.out.ex) ?_
                  refine ways_reads [12] (by kernel_rfl) ?_
                  simp only [pickL, List.map_cons, List.map_nil, List.getD_cons_zero, List.getD_cons_succ]
                  repeat (go_big_quiet_step (fail))
                  refine wpQuiet_nil ?_
                  refine ways_end (by kernel_rfl) ?_
                  have HRZ := Lib.hid (HRX.out _ HTZ.out.ex)
                  go_wp2
                  exact ⟨⟨n + 1, M, hl.set n false, hs, by go_num, by have := hLEN.out; omega, by simp; exact hLEN.out, rfl, ⟨(bs_of_own HTZ.out.oa).1, fun _ g hg => .inr (Nat.le_trans hwh ((bs_of_own HTZ.out.oa).2 g hg))⟩, HD.out.skip hlt, HRZ.out⟩, by have := hLEN.out; simp [intOf]; omega⟩
          · rw [Bool.not_eq_true] at hv
            rw [hv] at d0
            by_cases hcp : cp2 = n + 1
            · have hcp0 : hl.length - (n + 1) = 0 := by omega
              have H1 := Lib.hid (fun (X : World) (hx : Ext wr X) (i : Nat) (hi : i < n) => (show X.cell? ((⟨bb, ofs, none⟩ : Addr).add i) = some (.bool (bN (hl.take n) i)) by rw [add_at', bN_take _ _ _ hi]; exact ext_cell hx (hcell i (by omega))))
              have H2 := Lib.hid (fun (ad : Addr) (ha : ad = ⟨bb, ofs + (n + 1), none⟩ ∨ hl.length - (n + 1) = 0) (X : World) (hx : Ext wr X) (i : Nat) (hi : i < hl.length - (n + 1)) => (show X.cell? (ad.add i) = some (.bool (bN (hl.drop (n + 1)) i)) by
                rcases ha with rfl | h0
                · rw [add_at', bN_drop]
                  have h := ext_cell hx (hcell (n + 1 + i) (by omega))
                  rw [← Nat.add_assoc] at h
                  exact h
                · omega))
              have HRX := Lib.hid (fun (X : World) (hx : Ext wr X) => HR.out.ext hx)
              have hwh : hi ≤ wr.heap.size := by have := HR.out.bs; omega
              clear hcell
              go_wp2
              refine wp_region_ways (fun x => ∃ s, x = over wr s) (by kernel_rfl) (over_of (ext_drew (ext_refl wr))) ?_
              refine ways_reads [1, 2, 3, 6, 7, 8, 9] (by kernel_rfl) ?_
              simp only [pickL, List.map_cons, List.map_nil, List.getD_cons_zero, List.getD_cons_succ]
              repeat (go_big_quiet_step (fail))
              refine wpQuiet_nil ?_
              clear c0 c1 c2 c3 c4 c5 lt d0
              have HT := Lib.hid ((TwoB.nil wr).ext (ext_drew (ext_refl wr)))
              generalize wr.drew = X0 at HT ⊢
              refine ways_fork 0 (by kernel_rfl) ?_ (ways_act 5 (by kernel_rfl) ?_)
              · simp only [pickL, List.map_cons, List.map_nil, List.getD_cons_zero]
                go_wp2
                replace HT := Lib.hid (show TwoB wr [] ([] : List Bool) (.slice (some ⟨X0.heap.size, 0, none⟩) 0 0) (.slice none 0 0) (X0.alloc (.cells #[] 4)) from HT.out.new [] _ rfl (by simp))
                refine mixQ_mk (over_of HT.out.ex) ?_
                generalize X0.alloc (.cells #[] 4) = X1 at HT ⊢
                generalize X0.heap.size = b0 at HT ⊢
                refine ways_fork 4 (by kernel_rfl) ?_ (ways_act 5 (by kernel_rfl) ?_)
                · simp only [pickL, List.map_cons, List.map_nil, List.getD_cons_zero, List.getD_cons_succ]
                  refine wpList_growB rfl (.tmp 142) (.tmp 145) rfl [] ([] : List Bool) (hl.take n) _ _ HT.out rfl ⟨bb, ofs, none⟩ n _ rfl (by simp; omega) (H1.out _ HT.out.ex) (by simp; omega) ?_
                  intro v1 X2 hT
                  replace HT := Lib.hid (show TwoB wr (hl.take n) ([] : List Bool) v1 (.slice none 0 0) X2 from hT)
                  clear hT
                  go_wp2
                  refine mixQ_mk (over_of HT.out.ex) ?_
                  refine ways_act 5 (by kernel_rfl) ?_
                  simp only [pickL, List.map_cons, List.map_nil, List.getD_cons_zero, List.getD_cons_succ]
                  go_wp2
                  replace HT := Lib.hid (show TwoB wr (hl.take n) [false] v1 (.slice (some ⟨X2.heap.size, 0, none⟩) 1 1) (X2.alloc (.cells #[.bool false] 4)) from (HT.out.swap.new [false] _ rfl (by simp)).swap)
                  refine mixQ_mk (over_of HT.out.ex) ?_
                  generalize X2.alloc (.cells #[.bool false] 4) = X3 at HT ⊢
                  generalize X2.heap.size = b2 at HT ⊢
                  refine ways_act 10 (by kernel_rfl) ?_
                  simp only [pickL, List.map_cons, List.map_nil, List.getD_cons_zero, List.getD_cons_succ]
                  refine wpList_growB rfl (.tmp 147) (.tmp 151) rfl [false] (hl.take n) (hl.drop (n + 1)) _ _ HT.out.swap rfl ⟨bb, ofs, none⟩ 0 _ rfl (by simp; omega) (fun i hi => absurd hi (Nat.not_lt_zero _)) (by simp) ?_
                  intro v3 X4 hT
                  replace HT := Lib.hid (show TwoB wr (hl.take n) ([false] ++ hl.drop (n + 1)) v1 v3 X4 from hT.swap)
                  clear hT
                  go_wp2
                  refine mixQ_mk (over_of HT.out.ex) ?_
                  refine ways_act 11 (by kernel_rfl) ?_
                  simp only [pickL, List.map_cons, List.map_nil, List.getD_cons_zero, List.getD_cons_succ]
                  obtain ⟨⟨a9, q9, rfl, _, hr9⟩, _⟩ := bs_of_own HT.out.ob
                  obtain ⟨b9, o9, rfl, _, hc9⟩ := hr9 (by simp)
                  refine wpList_growB rfl (.tmp 146) (.tmp 152) rfl (hl.take n) ([false] ++ hl.drop (n + 1)) ([false] ++ hl.drop (n + 1)) _ _ HT.out rfl ⟨b9, o9, none⟩ _ _ rfl rfl (fun i hi => by rw [add_at']; exact hc9 i hi) (by simp; omega) ?_
                  intro vZ XZ hT
                  rw [setB_eq hl n hlt] at hT
                  have HTZ := Lib.hid hT
                  clear hT hc9 hr9 HT
                  go_wp2
                  refine mixQ_mk (over_of HTZ.out.ex) ?_
                  refine ways_reads [12] (by kernel_rfl) ?_
                  simp only [pickL, List.map_cons, List.map_nil, List.getD_cons_zero, List.getD_cons_succ]
                  repeat (go_big_quiet_step (fail))
                  refine wpQuiet_nil ?_
                  refine ways_end (by kernel_rfl) ?_
                  have HRZ := Lib.hid (HRX.out _ HTZ.out.ex)
                  go_wp2
                  exact ⟨⟨n + 1, M, hl.set n false, hs, by go_num, by have := hLEN.out; omega, by simp; exact hLEN.out, rfl, ⟨(bs_of_own HTZ.out.oa).1, fun _ g hg => .inr (Nat.le_trans hwh ((bs_of_own HTZ.out.oa).2 g hg))⟩, HD.out.skip hlt, HRZ.out⟩, by have := hLEN.out; simp [intOf]; omega⟩
                · simp only [pickL, List.map_cons, List.map_nil, List.getD_cons_zero, List.getD_cons_succ]
                  go_wp2
                  replace HT := Lib.hid (show TwoB wr ([] : List Bool) [false] (.slice (some ⟨b0, 0, none⟩) 0 0) (.slice (some ⟨X1.heap.size, 0, none⟩) 1 1) (X1.alloc (.cells #[.bool false] 4)) from (HT.out.swap.new [false] _ rfl (by simp)).swap)
                  refine mixQ_mk (over_of HT.out.ex) ?_
                  generalize X1.alloc (.cells #[.bool false] 4) = X2 at HT ⊢
                  generalize X1.heap.size = b1 at HT ⊢
                  refine ways_act 4 (by kernel_rfl) ?_
                  simp only [pickL, List.map_cons, List.map_nil, List.getD_cons_zero, List.getD_cons_succ]
                  refine wpList_growB rfl (.tmp 142) (.tmp 145) rfl [] [false] (hl.take n) _ _ HT.out rfl ⟨bb, ofs, none⟩ n _ rfl (by simp; omega) (H1.out _ HT.out.ex) (by simp; omega) ?_
                  intro v2 X3 hT
                  replace HT := Lib.hid (show TwoB wr (hl.take n) [false] v2 (.slice (some ⟨b1, 0, none⟩) 1 1) X3 from hT)
                  clear hT
                  go_wp2
                  refine mixQ_mk (over_of HT.out.ex) ?_
                  refine ways_act 10 (by kernel_rfl) ?_
                  simp only [pickL, List.map_cons, List.map_nil, List.getD_cons_zero, List.getD_cons_succ]
                  refine wpList_growB rfl (.tmp 147) (.tmp 151) rfl [false] (hl.take n) (hl.drop (n + 1)) _ _ HT.out.swap rfl ⟨bb, ofs, none⟩ 0 _ rfl (by simp; omega) (fun i hi => absurd hi (Nat.not_lt_zero _)) (by simp) ?_
                  intro v3 X4 hT
                  replace HT := Lib.hid (show TwoB wr (hl.take n) ([false] ++ hl.drop (n + 1)) v2 v3 X4 from hT.swap)
                  clear hT
                  go_wp2
                  refine mixQ_mk (over_of HT.out.ex) ?_
                  refine ways_act 11 (by kernel_rfl) ?_
                  simp only [pickL, List.map_cons, List.map_nil, List.getD_cons_zero, List.getD_cons_succ]
                  obtain ⟨⟨a9, q9, rfl, _, hr9⟩, _⟩ := bs_of_own HT.out.ob
                  obtain ⟨b9, o9, rfl, _, hc9⟩ := hr9 (by simp)
                  refine wpList_growB rfl (.tmp 146) (.tmp 152) rfl (hl.take n) ([false] ++ hl.drop (n + 1)) ([false] ++ hl.drop (n + 1)) _ _ HT.out rfl ⟨b9, o9, none⟩ _ _ rfl rfl (fun i hi => by rw [add_at']; exact hc9 i hi) (by simp; omega) ?_
                  intro vZ XZ hT
                  rw [setB_eq hl n hlt] at hT
                  have HTZ := Lib.hid hT
                  clear hT hc9 hr9 HT
                  go_wp2
                  refine mixQ_mk (over_of HTZ.out.ex) ?_
                  refine ways_reads [12] (by kernel_rfl) ?_
                  simp only [pickL, List.map_cons, List.map_nil, List.getD_cons_zero, List.getD_cons_succ]
                  repeat (go_big_quiet_step (fail))
                  refine wpQuiet_nil ?_
                  refine ways_end (by kernel_rfl) ?_
                  have HRZ := Lib.hid (HRX.out _ HTZ.out.ex)
                  go_wp2
                  exact ⟨⟨n + 1, M, hl.set n false, hs, by go_num, by have := hLEN.out; omega, by simp; exact hLEN.out, rfl, ⟨(bs_of_own HTZ.out.oa).1, fun _ g hg => .inr (Nat.le_trans hwh ((bs_of_own HTZ.out.oa).2 g hg))⟩, HD.out.skip hlt, HRZ.out⟩, by have := hLEN.out; simp [intOf]; omega⟩
              · simp only [pickL, List.map_cons, List.map_nil, List.getD_cons_zero, List.getD_cons_succ]
                go_wp2
                replace HT := Lib.hid (show TwoB wr ([] : List Bool) [false] (.slice none 0 0) (.slice (some ⟨X0.heap.size, 0, none⟩) 1 1) (X0.alloc (.cells #[.bool false] 4)) from (HT.out.swap.new [false] _ rfl (by simp)).swap)
                refine mixQ_mk (over_of HT.out.ex) ?_
                generalize X0.alloc (.cells #[.bool false] 4) = X1 at HT ⊢
                generalize X0.heap.size = b0 at HT ⊢
                refine ways_act 0 (by kernel_rfl) ?_
                simp only [pickL, List.map_cons, List.map_nil, List.getD_cons_zero]
                go_wp2
                replace HT := Lib.hid (show TwoB wr [] [false] (.slice (some ⟨X1.heap.size, 0, none⟩) 0 0) (.slice (some ⟨b0, 0, none⟩) 1 1) (X1.alloc (.cells #[] 4)) from HT.out.new [] _ rfl (by simp))
                refine mixQ_mk (over_of HT.out.ex) ?_
                generalize X1.alloc (.cells #[] 4) = X2 at HT ⊢
                generalize X1.heap.size = b1 at HT ⊢
                refine ways_act 4 (by kernel_rfl) ?_
                simp only [pickL, List.map_cons, List.map_nil, List.getD_cons_zero, List.getD_cons_succ]
                refine wpList_growB rfl (.tmp 142) (.tmp 145) rfl [] [false] (hl.take n) _ _ HT.out rfl ⟨bb, ofs, none⟩ n _ rfl (by simp; omega) (H1.out _ HT.out.ex) (by simp; omega) ?_
                intro v2 X3 hT
                replace HT := Lib.hid (show TwoB wr (hl.take n) [false] v2 (.slice (some ⟨b0, 0, none⟩) 1 1) X3 from hT)
                clear hT
                go_wp2
                refine mixQ_mk (over_of HT.out.ex) ?_
                refine ways_act 10 (by kernel_rfl) ?_
                simp only [pickL, List.map_cons, List.map_nil, List.getD_cons_zero, List.getD_cons_succ]
                refine wpList_growB rfl (.tmp 147) (.tmp 151) rfl [false] (hl.take n) (hl.drop (n + 1)) _ _ HT.out.swap rfl ⟨bb, ofs, none⟩ 0 _ rfl (by simp; omega) (fun i hi => absurd hi (Nat.not_lt_zero _)) (by simp) ?_
                intro v3 X4 hT
                replace HT := Lib.hid (show TwoB wr (hl.take n) ([false] ++ hl.drop (n + 1)) v2 v3 X4 from hT.swap)
                clear hT
                go_wp2
                refine mixQ_mk (over_of HT.out.ex) ?_
                refine ways_act 11 (by kernel_rfl) ?_
                simp only [pickL, List.map_cons, List.map_nil, List.getD_cons_zero, List.getD_cons_succ]
                obtain ⟨⟨a9, q9, rfl, _, hr9⟩, _⟩ := bs_of_own HT.out.ob
                obtain ⟨b9, o9, rfl, _, hc9⟩ := hr9 (by simp)
                refine wpList_growB rfl (.tmp 146) (.tmp 152) rfl (hl.take n) ([false] ++ hl.drop (n + 1)) ([false] ++ hl.drop (n + 1)) _ _ HT.out rfl ⟨b9, o9, none⟩ _ _ rfl rfl (fun i hi => by rw [add_at']; exact hc9 i hi) (by simp; omega) ?_
                intro vZ XZ hT
                rw [setB_eq hl n hlt] at hT
                have HTZ := Lib.hid hT
                clear hT hc9 hr9 HT
                go_wp2
                refine mixQ_mk (over_of HTZ.out.ex) ?_
                refine ways_reads [12] (by kernel_rfl) ?_
                simp only [pickL, List.map_cons, List.map_nil, List.getD_cons_zero, List.getD_cons_succ]
                repeat (go_big_quiet_step (fail))
                refine wpQuiet_nil ?_
                refine ways_end (by kernel_rfl) ?_
                have HRZ := Lib.hid (HRX.out _ HTZ.out.ex)
                go_wp2
                exact ⟨⟨n + 1, M, hl.set n false, hs, by go_num, by have := hLEN.out; omega, by simp; exact hLEN.out, rfl, ⟨(bs_of_own HTZ.out.oa).1, fun _ g hg => .inr (Nat.le_trans hwh ((bs_of_own HTZ.out.oa).2 g hg))⟩, HD.out.skip hlt, HRZ.out⟩, by have := hLEN.out; simp [intOf]; omega⟩
            · have H1 := Lib.hid (fun (X : World) (hx : Ext wr X) (i : Nat) (hi : i < n) => (show X.cell? ((⟨bb, ofs, none⟩ : Addr).add i) = some (.bool (bN (hl.take n) i)) by rw [add_at', bN_take _ _ _ hi]; exact ext_cell hx (hcell i (by omega))))
              have H2 := Lib.hid (fun (ad : Addr) (ha : ad = ⟨bb, ofs + (n + 1), none⟩ ∨ hl.length - (n + 1) = 0) (X : World) (hx : Ext wr X) (i : Nat) (hi : i < hl.length - (n + 1)) => (show X.cell? (ad.add i) = some (.bool (bN (hl.drop (n + 1)) i)) by
                rcases ha with rfl | h0
                · rw [add_at', bN_drop]
                  have h := ext_cell hx (hcell (n + 1 + i) (by omega))
                  rw [← Nat.add_assoc] at h
                  exact h
                · omega))
              have HRX := Lib.hid (fun (X : World) (hx : Ext wr X) => HR.out.ext hx)
              have hwh : hi ≤ wr.heap.size := by have := HR.out.bs; omega
              clear hcell
              go_wp2
              refine wp_region_ways (fun x => ∃ s, x = over wr s) (by kernel_rfl) (over_of (ext_drew (ext_refl wr))) ?_
              refine ways_reads [1, 2, 3, 6, 7, 8, 9] (by kernel_rfl) ?_
              simp only [pickL, List.map_cons, List.map_nil, List.getD_cons_zero, List.getD_cons_succ]
              repeat (go_big_quiet_step (fail))
              refine wpQuiet_nil ?_
              clear c0 c1 c2 c3 c4 c5 lt d0
              have HT := Lib.hid ((TwoB.nil wr).ext (ext_drew (ext_refl wr)))
              generalize wr.drew = X0 at HT ⊢
              refine ways_fork 0 (by kernel_rfl) ?_ (ways_act 5 (by kernel_rfl) ?_)
              · simp only [pickL, List.map_cons, List.map_nil, List.getD_cons_zero]
                go_wp2
                replace HT := Lib.hid (show TwoB wr [] ([] : List Bool) (.slice (some ⟨X0.heap.size, 0, none⟩) 0 0) (.slice none 0 0) (X0.alloc (.cells #[] 4)) from HT.out.new [] _ rfl (by simp))
                refine mixQ_mk (over_of HT.out.ex) ?_
                generalize X0.alloc (.cells #[] 4) = X1 at HT ⊢
                generalize X0.heap.size = b0 at HT ⊢
                refine ways_fork 4 (by kernel_rfl) ?_ (ways_act 5 (by kernel_rfl) ?_)
                · simp only [pickL, List.map_cons, List.map_nil, List.getD_cons_zero, List.getD_cons_succ]
                  refine wpList_growB rfl (.tmp 142) (.tmp 145) rfl [] ([] : List Bool) (hl.take n) _ _ HT.out rfl ⟨bb, ofs, none⟩ n _ rfl (by simp; omega) (H1.out _ HT.out.ex) (by simp; omega) ?_
                  intro v1 X2 hT
                  replace HT := Lib.hid (show TwoB wr (hl.take n) ([] : List Bool) v1 (.slice none 0 0) X2 from hT)
                  clear hT
                  go_wp2
                  refine mixQ_mk (over_of HT.out.ex) ?_
                  refine ways_act 5 (by kernel_rfl) ?_
                  simp only [pickL, List.map_cons, List.map_nil, List.getD_cons_zero, List.getD_cons_succ]
                  go_wp2
                  replace HT := Lib.hid (show TwoB wr (hl.take n) [false] v1 (.slice (some ⟨X2.heap.size, 0, none⟩) 1 1) (X2.alloc (.cells #[.bool false] 4)) from (HT.out.swap.new [false] _ rfl (by simp)).swap)
                  refine mixQ_mk (over_of HT.out.ex) ?_
                  generalize X2.alloc (.cells #[.bool false] 4) = X3 at HT ⊢
                  generalize X2.heap.size = b2 at HT ⊢
                  refine ways_act 10 (by kernel_rfl) ?_
                  simp only [pickL, List.map_cons, List.map_nil, List.getD_cons_zero, List.getD_cons_succ]
                  refine wpList_growB rfl (.tmp 147) (.tmp 151) rfl [false] (hl.take n) (hl.drop (n + 1)) _ _ HT.out.swap rfl ⟨bb, ofs + (n + 1), none⟩ (hl.length - (n + 1)) _ rfl (by simp) (H2.out _ (.inl rfl) _ HT.out.ex) (by simp; omega) ?_
                  intro v3 X4 hT
                  replace HT := Lib.hid (show TwoB wr (hl.take n) ([false] ++ hl.drop (n + 1)) v1 v3 X4 from hT.swap)
                  clear hT
                  go_wp2
                  refine mixQ_mk (over_of HT.out.ex) ?_
                  refine ways_act 11 (by kernel_rfl) ?_
                  simp only [pickL, List.map_cons, List.map_nil, List.getD_cons_zero, List.getD_cons_succ]
                  obtain ⟨⟨a9, q9, rfl, _, hr9⟩, _⟩ := bs_of_own HT.out.ob
                  obtain ⟨b9, o9, rfl, _, hc9⟩ := hr9 (by simp)
                  refine wpList_growB rfl (.tmp 146) (.tmp 152) rfl (hl.take n) ([false] ++ hl.drop (n + 1)) ([false] ++ hl.drop (n + 1)) _ _ HT.out rfl ⟨b9, o9, none⟩ _ _ rfl rfl (fun i hi => by rw [add_at']; exact hc9 i hi) (by simp; omega) ?_
                  intro vZ XZ hT
                  rw [setB_eq hl n hlt] at hT
                  have HTZ := Lib.hid hT
                  clear hT hc9 hr9 HT
                  go_wp2
                  refine mixQ_mk (over_of HTZ.out.ex) ?_
                  refine ways_reads [12] (by kernel_rfl) ?_
                  simp only [pickL, List.map_cons, List.map_nil, List.getD_cons_zero, List.getD_cons_succ]
                  repeat (go_big_quiet_step (fail))
                  refine wpQuiet_nil ?_
                  refine ways_end (by kernel_rfl) ?_
                  have HRZ := Lib.hid (HRX.out _ HTZ.out.ex)
                  go_wp2
                  exact ⟨⟨n + 1, M, hl.set n false, hs, by go_num, by have := hLEN.out; omega, by simp; exact hLEN.out, rfl, ⟨(bs_of_own HTZ.out.oa).1, fun _ g hg => .inr (Nat.le_trans hwh ((bs_of_own HTZ.out.oa).2 g hg))⟩, HD.out.skip hlt, HRZ.out⟩, by have := hLEN.out; simp [intOf]; omega⟩
                · simp only [pickL, List.map_cons, List.map_nil, List.getD_cons_zero, List.getD_cons_succ]
                  go_wp2
                  replace HT := Lib.hid (show TwoB wr ([] : List Bool) [false] (.slice (some ⟨b0, 0, none⟩) 0 0) (.slice (some ⟨X1.heap.size, 0, none⟩) 1 1) (X1.alloc (.cells #[.bool false] 4)) from (HT.out.swap.new [false] _ rfl (by simp)).swap)
                  refine mixQ_mk (over_of HT.out.ex) ?_
                  generalize X1.alloc (.cells #[.bool false] 4) = X2 at HT ⊢
                  generalize X1.heap.size = b1 at HT ⊢
                  refine ways_act 4 (by kernel_rfl) ?_
                  simp only [pickL, List.map_cons, List.map_nil, List.getD_cons_zero, List.getD_cons_succ]
                  refine wpList_growB rfl (.tmp 142) (.tmp 145) rfl [] [false] (hl.take n) _ _ HT.out rfl ⟨bb, ofs, none⟩ n _ rfl (by simp; omega) (H1.out _ HT.out.ex) (by simp; omega) ?_
                  intro v2 X3 hT
                  replace HT := Lib.hid (show TwoB wr (hl.take n) [false] v2 (.slice (some ⟨b1, 0, none⟩) 1 1) X3 from hT)
                  clear hT
                  go_wp2
                  refine mixQ_mk (over_of HT.out.ex) ?_
                  refine ways_act 10 (by kernel_rfl) ?_
                  simp only [pickL, List.map_cons, List.map_nil, List.getD_cons_zero, List.getD_cons_succ]
                  refine wpList_growB rfl (.tmp 147) (.tmp 151) rfl [false] (hl.take n) (hl.drop (n + 1)) _ _ HT.out.swap rfl ⟨bb, ofs + (n + 1), none⟩ (hl.length - (n + 1)) _ rfl (by simp) (H2.out _ (.inl rfl) _ HT.out.ex) (by simp; omega) ?_
                  intro v3 X4 hT
                  replace HT := Lib.hid (show TwoB wr (hl.take n) ([false] ++ hl.drop (n + 1)) v2 v3 X4 from hT.swap)
                  clear hT
                  go_wp2
                  refine mixQ_mk (over_of HT.out.ex) ?_
                  refine ways_act 11 (by kernel_rfl) ?_
                  simp only [pickL, List.map_cons, List.map_nil, List.getD_cons_zero, List.getD_cons_succ]
                  obtain ⟨⟨a9, q9, rfl, _, hr9⟩, _⟩ := bs_of_own HT.out.ob
                  obtain ⟨b9, o9, rfl, _, hc9⟩ := hr9 (by simp)
                  refine wpList_growB rfl (.tmp 146) (.tmp 152) rfl (hl.take n) ([false] ++ hl.drop (n + 1)) ([false] ++ hl.drop (n + 1)) _ _ HT.out rfl ⟨b9, o9, none⟩ _ _ rfl rfl (fun i hi => by rw [add_at']; exact hc9 i hi) (by simp; omega) ?_
                  intro vZ XZ hT
                  rw [setB_eq hl n hlt] at hT
                  have HTZ := Lib.hid hT
                  clear hT hc9 hr9 HT
                  go_wp2
                  refine mixQ_mk (over_of HTZ.out.ex) ?_
                  refine ways_reads [12] (by kernel_rfl) ?_
                  simp only [pickL, List.map_cons, List.map_nil, List.getD_cons_zero, List.getD_cons_succ]
                  repeat (go_big_quiet_step (fail))
                  refine wpQuiet_nil ?_
                  refine ways_end (by kernel_rfl) ?_
                  have HRZ := Lib.hid (HRX.out _ HTZ.out.ex)
                  go_wp2
                  exact ⟨⟨n + 1, M, hl.set n false, hs, by go_num, by have := hLEN.out; omega, by simp; exact hLEN.out, rfl, ⟨(bs_of_own HTZ.out.oa).1, fun _ g hg => .inr (Nat.le_trans hwh ((bs_of_own HTZ.out.oa).2 g hg))⟩, HD.out.skip hlt, HRZ.out⟩, by have := hLEN.out; simp [intOf]; omega⟩
              · simp only [pickL, List.map_cons, List.map_nil, List.getD_cons_zero, List.getD_cons_succ]
                go_wp2
                replace HT := Lib.hid (show TwoB wr ([] : List Bool) [false] (.slice none 0 0) (.slice (some ⟨X0.heap.size, 0, none⟩) 1 1) (X0.alloc (.cells #[.bool false] 4)) from (HT.out.swap.new [false] _ rfl (by simp)).swap)
                refine mixQ_mk (over_of HT.out.ex) ?_
                generalize X0.alloc (.cells #[.bool false] 4) = X1 at HT ⊢
                generalize X0.heap.size = b0 at HT ⊢
                refine ways_act 0 (by kernel_rfl) ?_
                simp only [pickL, List.map_cons, List.map_nil, List.getD_cons_zero]
                go_wp2
                replace HT := Lib.hid (show TwoB wr [] [false] (.slice (some ⟨X1.heap.size, 0, none⟩) 0 0) (.slice (some ⟨b0, 0, none⟩) 1 1) (X1.alloc (.cells #[] 4)) from HT.out.new [] _ rfl (by simp))
                refine mixQ_mk (over_of HT.out.ex) ?_
                generalize X1.alloc (.cells #[] 4) = X2 at HT ⊢
                generalize X1.heap.size = b1 at HT ⊢
                refine ways_act 4 (by kernel_rfl) ?_
                simp only [pickL, List.map_cons, List.map_nil, List.getD_cons_zero, List.getD_cons_succ]
                refine wpList_growB rfl (.tmp 142) (.tmp 145) rfl [] [false] (hl.take n) _ _ HT.out rfl ⟨bb, ofs, none⟩ n _ rfl (by simp; omega) (H1.out _ HT.out.ex) (by simp; omega) ?_
                intro v2 X3 hT
                replace HT := Lib.hid (show TwoB wr (hl.take n) [false] v2 (.slice (some ⟨b0, 0, none⟩) 1 1) X3 from hT)
                clear hT
                go_wp2
                refine mixQ_mk (over_of HT.out.ex) ?_
                refine ways_act 10 (by kernel_rfl) ?_
                simp only [pickL, List.map_cons, List.map_nil, List.getD_cons_zero, List.getD_cons_succ]
                refine wpList_growB rfl (.tmp 147) (.tmp 151) rfl [false] (hl.take n) (hl.drop (n + 1)) _ _ HT.out.swap rfl ⟨bb, ofs + (n + 1), none⟩ (hl.length - (n + 1)) _ rfl (by simp) (H2.out _ (.inl rfl) _ HT.out.ex) (by simp; omega) ?_
                intro v3 X4 hT
                replace HT := Lib.hid (show TwoB wr (hl.take n) ([false] ++ hl.drop (n + 1)) v2 v3 X4 from hT.swap)
                clear hT
                go_wp2
                refine mixQ_mk (over_of HT.out.ex) ?_
                refine ways_act 11 (by kernel_rfl) ?_
                simp only [pickL, List.map_cons, List.map_nil, List.getD_cons_zero, List.getD_cons_succ]
                obtain ⟨⟨a9, q9, rfl, _, hr9⟩, _⟩ := bs_of_own HT.out.ob
                obtain ⟨b9, o9, rfl, _, hc9⟩ := hr9 (by simp)
                refine wpList_growB rfl (.tmp 146) (.tmp 152) rfl (hl.take n) ([false] ++ hl.drop (n + 1)) ([false] ++ hl.drop (n + 1)) _ _ HT.out rfl ⟨b9, o9, none⟩ _ _ rfl rfl (fun i hi => by rw [add_at']; exact hc9 i hi) (by simp; omega) ?_
                intro vZ XZ hT
                rw [setB_eq hl n hlt] at hT
                have HTZ := Lib.hid hT
                clear hT hc9 hr9 HT
                go_wp2
                refine mixQ_mk (over_of HTZ.out.ex) ?_
                refine ways_reads [12] (by kernel_rfl) ?_
                simp only [pickL, List.map_cons, List.map_nil, List.getD_cons_zero, List.getD_cons_succ]
                repeat (go_big_quiet_step (fail))
                refine wpQuiet_nil ?_
                refine ways_end (by kernel_rfl) ?_
                have HRZ := Lib.hid (HRX.out _ HTZ.out.ex)
                go_wp2
                exact ⟨⟨n + 1, M, hl.set n false, hs, by go_num, by have := hLEN.out; omega, by simp; exact hLEN.out, rfl, ⟨(bs_of_own HTZ.out.oa).1, fun _ g hg => .inr (Nat.le_trans hwh ((bs_of_own HTZ.out.oa).2 g hg))⟩, HD.out.skip hlt, HRZ.out⟩, by have := hLEN.out; simp [intOf]; omega⟩
        · have hnl4 : hl.length ≤ n := by omega
          have hnl5 : ¬ (n : Int) < hl.length := by omega
          have hDE : HdIn p M hl.length hl hs := by
            have en : n = hl.length := by omega
            have h := HD.out
            rwa [en] at h
          obtain ⟨M2, T2, k2, r2, hk2, S2⟩ := scan_run (hd := hzW p M) HP.out h0 h1 (show TT ≤ 2000000 by omega) HR.out.h.mg HR.out.ra HR.out.fl HR.out.nd (fun _ _ h => by simp at h) (fun _ _ => rfl)
          have hcg := scanP_congr (H := hldB p (hzW p M)) (H' := hldR hl) la.length la [] (Nat.le_refl _) (fun x hx => hDE.told HP.out (HR.out.ra.rg x hx))
          have hsl2 := scanP_len (hldR hl) la.length la [] (Nat.le_refl _)
          simp only [List.length_nil, Nat.add_zero] at hsl2
          rw [hcg] at r2 S2
          clear hcg hDE
          obtain ⟨lf, hlf⟩ : ∃ l, (scanP (hldR hl) la.length la []).1 = l := ⟨_, rfl⟩
          obtain ⟨out, hout⟩ : ∃ l, (scanP (hldR hl) la.length la []).2 = l := ⟨_, rfl⟩
          have hRS : ∀ v vh W, Is W v la → Bs W vh hl → Calls Tryz.prog 18 #[v, vh] W (RetSc lf out W) := fun v vh W a b => by
            have h := rscan_any la hl v vh W (by omega) a b
            rwa [hlf, hout] at h
          rw [hlf] at r2 S2 hsl2
          rw [hout] at S2 hsl2
          rw [show (la.length : Int) - (lf.length : Int) = (out.length : Int) by omega] at r2
          have hol : out.length ≤ 40 := by omega
          have hll : lf.length ≤ 40 := by omega
          clear hsl2
          have hfl2 : FL p M2 (pushL (fun _ => false) [] out) T2 := by
            have h := S2.fl
            rwa [pushL_congr (g' := fun _ => false) out [] (fun x hx => by unfold goneB; rw [nst_fresh HG9.out (HR.out.sd x (S2.dn x hx).1)]; rfl)] at h
          obtain ⟨PK, hPK⟩ : ∃ f : Int → Int, ∀ a, f a = U (M2.wd 0 a.toNat) := ⟨_, fun _ => rfl⟩
          obtain ⟨SW, hSW⟩ : ∃ x : Int, x = U (St.word ⟨4, 0, 0⟩) := ⟨_, rfl⟩
          have hWd : ∀ W, Calls Tryz.prog 25 #[.agg #[.int .i64 4, .int .i64 0, .int .i64 0]] W (Ret (.int .u64 SW) W) := fun W => by rw [hSW]; exact word_any ⟨4, 0, 0⟩ W
          have hDN : ∀ x ∈ out, InR p x ∧ PK (p.stF x) = SW ∧ PK (p.fdF x 0) = 0 ∧ PK (p.fdF x 1) = 0 ∧ PK (p.fdF x 2) = 0 := fun x hx => by
            obtain ⟨y1, y2, y3⟩ := S2.dn x hx
            rw [nst_fresh HG9.out (HR.out.sd x y1)] at y2
            exact ⟨y1, by rw [hPK, hSW]; exact congrArg U y2, (hPK _).trans ((congrArg U (y3 0 (by omega) (by omega))).trans U_0), (hPK _).trans ((congrArg U (y3 1 (by omega) (by omega))).trans U_0), (hPK _).trans ((congrArg U (y3 2 (by omega) (by omega))).trans U_0)⟩
          have hPk : ∀ (a : Int) (W : World), MemIn lo hi L M2 W → (0 ≤ a ∧ a < p.sizeF) → Calls Tryz.prog 23 #[.pointer (some ⟨L.bm, 0, none⟩), .int .i64 0, .int .i64 a] W (Ret (.int .u64 (PK a)) W) := fun a W hm hq =>
            peek_int hm 0 a (PK a) (by omega) (by rw [S2.mg.n]; omega) hq.1 (by show a < (M2.sz 0 : Int); rw [S2.mg.s]; omega) (Lib.hid (hPK a).symm)
          have hRl : ∀ W, MemIn lo hi L M2 W → Calls Tryz.prog 21 #[plV p, .pointer (some ⟨L.bm, 0, none⟩), .int .i64 0, .int .i64 (p.t - 1)] W (fun e w' => ∃ v, e = .returned v ∧ IR W.heap.size v lf w' ∧ Ext W w') := fun W hm => by
            rw [← HTT.out]
            exact rlist_any p HP.out tt h0 h1 lf S2.mg S2.rt hm
          have HRL := Lib.hid hRl
          clear hRl
          have HRS := Lib.hid hRS
          have HWD := Lib.hid hWd
          have HDN := Lib.hid hDN
          have HPK := Lib.hid hPk
          have HR2 := Lib.hid r2
          have HFL := Lib.hid hfl2
          have HG2 := Lib.hid (And.intro S2.mg S2.rt)
          clear hRS hWd hDN hPk r2 hfl2 S2 hPK hSW hlf hout hcl hnm
          have HH := Lib.hid HR.out.h
          have HIA := Lib.hid HR.out.ia
          clear HR HD
          go_wp2_with (go_at_call 17; refine (HSC.out _).mono ?_; rintro e w2 ⟨v1, F1, rfl, hx2, hp1, hbn1, hsub1⟩; refine Hid.out ?_)
          refine Lib.hid ?_
          have HOF1 := Lib.hid (fun j (hj : F1 j) => (hsub1 j hj).elim (fun h => h.elim) fun h => (.inr (Nat.le_trans HH.out.m.top h) : j < lo ∨ hi ≤ j))
          have HH2 := Lib.hid (HH.out.ext hx2)
          have HP1 := Lib.hid hp1
          have HBN1 := Lib.hid hbn1
          have HIA2 := Lib.hid (HIA.out.ext hx2)
          have HBa := Lib.hid (HB.out.ext hx2)
          clear hx2 hp1 hbn1 hsub1
          go_wp2_with (go_at_call 14; refine (cap_int HH2.out.m 0 1#64 (by omega) (by rw [HH2.out.mg.n]; omega) (Lib.hid HH2.out.mg.e)).mono ?_; rintro e w3 ⟨rfl, hx3⟩; refine Hid.out ?_)
          refine Lib.hid ?_
          have HH3 := Lib.hid (HH2.out.ext hx3)
          replace HP1 := Lib.hid (HP1.out.agr (Agr.of_ext hx3 HBN1.out))
          replace HBN1 := Lib.hid (HBN1.out.ext hx3.size)
          have HIA3 := Lib.hid (HIA2.out.ext hx3)
          have HBb := Lib.hid (HBa.out.ext hx3)
          clear hx3
          go_wp2_with (go_at_call 12; refine (runI_any HR2.out 100000 (by omega) (by omega) F1 v1 w3 HP1.out HBN1.out HOF1.out HH3.out.m).mono ?_; rintro e w4 ⟨rfl, hm4, hf4⟩; refine Hid.out ?_)
          refine Lib.hid ?_
          have HI4 := Lib.hid (HH3.out.ran hm4 hf4 HG2.out.1 (by omega) hlo1)
          have HIA4 := Lib.hid (HIA3.out.fr hf4 hhb)
          have HB4 := Lib.hid (HBb.out.fr hf4)
          clear hlt hnl4 hnl5 hm4 hf4 HP1 HBN1 HOF1 HH HH2 HH3 HR2 HIA HIA2 HIA3 HB HBa HBb c0 c1 c2 c3 c4 c5 lt
          go_wp2_with (go_at_call 18; refine (HRS.out _ _ _ HIA4.out.is HB4.out.bs).mono ?_; rintro e w5 ⟨vl, vo, rfl, hil, hio, hx⟩; refine Hid.out ?_)
          refine Lib.hid ?_
          have HI5 := Lib.hid (HI4.out.ext hx)
          have HIL := Lib.hid hil
          have HIO := Lib.hid hio
          obtain ⟨voa, voc, rfl⟩ := hio.slice
          clear hx hil hio HI4 HIA4 HB4 HRS
          go_wp2
          go_loopw [22, 23] (fun vw vi wr => SwRel3 w5 out vw vi wr) (fun _ vi _ => (out.length - intOf vi).toNat)
          case atStart => exact ⟨0, rfl, Nat.zero_le _, IR.nil _ _, ext_refl _⟩
          case round =>
            obtain ⟨k, rfl, hk, hiw, hxw⟩ := hrel
            by_cases hlt : k < out.length
            · have hlt' : (k : Int) < out.length := by omega
              obtain ⟨bb, ofs, rfl, hbl, hcell⟩ := (HIO.out.ext hxw).is.at (by omega)
              have d0 := hcell k hlt
              have hpl := pushL_len (fun _ => false) (out.take k) []
              have htl : (out.take k).length ≤ k := by simp; omega
              have hsn := Lib.hid (pushF_snoc out k hlt)
              obtain ⟨y, hy⟩ : ∃ y, y = iN out k := ⟨_, rfl⟩
              rw [← hy] at d0 hsn
              have hbl2 := cell_lt d0
              clear hcell hy
              have HIW := Lib.hid hiw
              have HXW := Lib.hid hxw
              clear hiw hxw
              go_wp2_with (go_at_call 19; refine (rpush_any y (pushL (fun _ => false) [] (out.take k)) _ _ (by simp at hpl; omega) HIW.out.is).mono ?_; rintro e wb ⟨vp, rfl, hip, hx⟩; refine Hid.out ?_)
              refine Lib.hid ?_
              have HIP := Lib.hid (hip.mono (base' := w5.heap.size) HXW.out.size)
              have HXP := Lib.hid (ext_trans HXW.out hx)
              clear hip hx d0 hbl2 HIW HXW hpl htl
              go_wp2
              exact ⟨⟨k + 1, by go_num, by omega, by rw [hsn.out]; exact HIP.out, HXP.out⟩, by simp [intOf]; omega⟩
            · have hnl4 : out.length ≤ k := by omega
              have hnl5 : ¬ (k : Int) < out.length := by omega
              have hpl := pushL_len (fun _ => false) out []
              rw [List.take_of_length_le hnl4] at hiw
              have HIW := Lib.hid hiw
              have HI6 := Lib.hid (HI5.out.ext hxw)
              have HIL6 := Lib.hid (HIL.out.ext hxw)
              have HIO6 := Lib.hid (HIO.out.ext hxw)
              clear hiw hxw HI5 HIL HIO
              have ⟨c0, c1, c2, c3, c4, c5, lt⟩ := HI6.out.pb.plc
              obtain ⟨want, hwa⟩ : ∃ l, l = pushL (fun _ => false) [] out := ⟨_, rfl⟩
              rw [← hwa] at HIW HFL hpl
              clear hwa
              have hwl : want.length ≤ 40 := by simp at hpl; omega
              clear hpl
              go_wp2_with (go_at_call 21; refine (HRL.out _ HI6.out.m).mono ?_; rintro e w6 ⟨vb, rfl, hvb, hx⟩; refine Hid.out ?_)
              refine Lib.hid ?_
              have HI7 := Lib.hid (HI6.out.ext hx)
              have HIL7 := Lib.hid (HIL6.out.ext hx)
              have HIO7 := Lib.hid (HIO6.out.ext hx)
              have HIW7 := Lib.hid (HIW.out.ext hx)
              have HVB := Lib.hid hvb
              clear hvb hx HI6 HIL6 HIO6 HIW c0 c1 c2 c3 c4 c5 lt
              go_wp2_with (go_at_call 20; refine (rsame_yes lf _ _ _ (by omega) HVB.out.is HIL7.out.is).mono ?_; rintro e w7 ⟨rfl, hx⟩; refine Hid.out ?_)
              refine Lib.hid ?_
              have HI8 := Lib.hid (HI7.out.ext hx)
              have HIO8 := Lib.hid (HIO7.out.ext hx)
              have HIW8 := Lib.hid (HIW7.out.ext hx)
              clear hx HI7 HIL7 HIO7 HIW7 HVB
              have ⟨c0, c1, c2, c3, c4, c5, lt⟩ := HI8.out.pb.plc
              go_wp2_with (go_at_call 22; refine (flist_any p HP.out want T2 HFL.out HI8.out.m).mono ?_; rintro e w8 ⟨vg, rfl, hvg, hx⟩; refine Hid.out ?_)
              refine Lib.hid ?_
              have HI9 := Lib.hid (HI8.out.ext hx)
              have HIO9 := Lib.hid (HIO8.out.ext hx)
              have HIW9 := Lib.hid (HIW8.out.ext hx)
              have HVG := Lib.hid hvg
              clear hvg hx HI8 HIO8 HIW8 c0 c1 c2 c3 c4 c5 lt
              go_wp2_with (go_at_call 20; refine (rsame_yes want _ _ _ (by omega) HVG.out.is HIW9.out.is).mono ?_; rintro e w9 ⟨rfl, hx⟩; refine Hid.out ?_)
              refine Lib.hid ?_
              have HIA := Lib.hid (HI9.out.ext hx)
              have HIOA := Lib.hid (HIO9.out.ext hx)
              clear hx HI9 HIO9 HIW9 HVG
              clear hlt hnl4 hnl5 hk
              go_wp2
              go_loopw [24] (fun vi wr => ∃ k : Nat, vi = .int .i64 (k : Int) ∧ k ≤ out.length ∧ Ext w9 wr) (fun vi _ => (out.length - intOf vi).toNat)
              case atStart => exact ⟨0, rfl, Nat.zero_le _, ext_refl _⟩
              case round =>
                obtain ⟨k, rfl, hk, hxw⟩ := hrel
                have HIR := Lib.hid (HIA.out.ext hxw)
                have HXW := Lib.hid hxw
                have ⟨c0, c1, c2, c3, c4, c5, lt⟩ := HIR.out.pb.plc
                by_cases hlt : k < out.length
                · have hlt' : (k : Int) < out.length := by omega
                  obtain ⟨bb, ofs, rfl, hbl, hcell⟩ := (HIOA.out.ext hxw).is.at (by omega)
                  have d0 := hcell k hlt
                  obtain ⟨hyr, kst, kf0, kf1, kf2⟩ := HDN.out _ (iN_mem hlt)
                  obtain ⟨y, hy⟩ : ∃ y, y = iN out k := ⟨_, rfl⟩
                  rw [← hy] at d0 hyr kst kf0 kf1 kf2
                  have hbl2 := cell_lt d0
                  obtain ⟨y1, _, y3, y4, y5⟩ := node_pl HP.out hyr
                  have hyn := hyr.1
                  have ost : 0 ≤ p.stF y ∧ p.stF y < p.sizeF := by omega
                  have of0 : 0 ≤ p.fdF y 0 ∧ p.fdF y 0 < p.sizeF := by have := y3 0 (by omega) (by omega); omega
                  have of1 : 0 ≤ p.fdF y 1 ∧ p.fdF y 1 < p.sizeF := by have := y3 1 (by omega) (by omega); omega
                  have of2 : 0 ≤ p.fdF y 2 ∧ p.fdF y 2 < p.sizeF := by have := y3 2 (by omega) (by omega); omega
                  replace ost := Lib.hid ost
                  replace of0 := Lib.hid of0
                  replace of1 := Lib.hid of1
                  replace of2 := Lib.hid of2
                  clear hcell hy hxw y1 y3 y4 y5 hyn hyr
                  go_wp2
                  refine wp_region_over (by kernel_rfl) (by kernel_rfl) ?_
                  repeat (go_big_quiet_step (first | (go_at_call 24; exact over_call (state_any p y _)) | (go_at_call 26; exact over_call (field_any p y _ _)) | (go_at_call 25; exact over_call (HWD.out _)) | (go_at_call 23; exact over_call (HPK.out _ _ (HIR.out.m.over _) (by first | exact ost.out | exact of0.out | exact of1.out | exact of2.out)))))
                  refine wpQuiet_nil ?_
                  intro _ hw'
                  obtain ⟨s9, hw''⟩ := hw'
                  subst hw''
                  clear c0 c1 c2 c3 c4 c5 lt d0 hbl2
                  go_wp2
                  exact ⟨⟨k + 1, by go_num, by omega, ext_over s9 HXW.out⟩, by simp [intOf]; omega⟩
                · have hnl4 : out.length ≤ k := by omega
                  have hnl5 : ¬ (k : Int) < out.length := by omega
                  go_wp2
                  go_ret
                  exact Ret.bool (by first | rfl | simp) HIR.out.ex
end Go.Proofs.YtlapcocljjgjlaaGreat
