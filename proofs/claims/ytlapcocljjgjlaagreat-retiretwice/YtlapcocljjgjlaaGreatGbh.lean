/-
  The law RetireTwice, walked. Conditions: those of each theorem.
-/
import Derived.Test.YtlapcocljjgjlaaGreatGbg
namespace Go.Proofs.YtlapcocljjgjlaaGreat
open Go Go.RowKit

set_option maxRecDepth 8000 in
set_option maxHeartbeats 1000000 in
theorem twi_nofew (p : Pl) (a a2 : Option Addr) (m cap m2 cap2 : Nat) (hf : ¬ (p.few ∧ p.ok)) (w : World) : Calls Tryz.prog 6 #[plV p, .slice a m cap, .slice a2 m2 cap2] w (Ret (.bool true) w) := by
  have HFP := Lib.hid hf
  clear hf
  go_enter Tryz.func6, Tryz.ntmps6
  go_wp2_with (first
    | (go_at_call 8; refine (r11wake_any _).mono ?_; rintro e w' hr; obtain ⟨rfl, sA, rfl⟩ := hr.over; clear hr)
    | (go_at_call 9; refine (r11few_any p _ false (hid_no HFP.out)).mono ?_; rintro e w' hr; obtain ⟨rfl, sA, rfl⟩ := hr.over; clear hr))
  go_ret
  exact Ret.mk (by repeat (first | exact ext_refl _ | apply ext_over | apply ext_alloc))
set_option maxRecDepth 8000 in
set_option maxHeartbeats 1000000 in
theorem twi_long (p : Pl) (a a2 : Option Addr) (m cap m2 cap2 : Nat) (hf : p.few ∧ p.ok) (hm : 40 < m) (w : World) : Calls Tryz.prog 6 #[plV p, .slice a m cap, .slice a2 m2 cap2] w (Ret (.bool true) w) := by
  have HFP := Lib.hid hf
  have d1 : decide (40 < (m : Int)) = true := by simp; omega
  clear hf
  go_enter Tryz.func6, Tryz.ntmps6
  go_wp2_with (first
    | (go_at_call 8; refine (r11wake_any _).mono ?_; rintro e w' hr; obtain ⟨rfl, sA, rfl⟩ := hr.over; clear hr)
    | (go_at_call 9; refine (r11few_any p _ true (hid_yes HFP.out)).mono ?_; rintro e w' hr; obtain ⟨rfl, sA, rfl⟩ := hr.over; clear hr))
  go_ret
  exact Ret.mk (by repeat (first | exact ext_refl _ | apply ext_over | apply ext_alloc))
set_option maxRecDepth 8000 in
set_option maxHeartbeats 1000000 in
theorem twi_long2 (p : Pl) (a a2 : Option Addr) (m cap m2 cap2 : Nat) (hf : p.few ∧ p.ok) (hm : m ≤ 40) (hm2 : 40 < m2) (w : World) : Calls Tryz.prog 6 #[plV p, .slice a m cap, .slice a2 m2 cap2] w (Ret (.bool true) w) := by
  have HFP := Lib.hid hf
  have d1 : decide (40 < (m : Int)) = false := by simp; omega
  have d2 : decide (40 < (m2 : Int)) = true := by simp; omega
  clear hf
  go_enter Tryz.func6, Tryz.ntmps6
  go_wp2_with (first
    | (go_at_call 8; refine (r11wake_any _).mono ?_; rintro e w' hr; obtain ⟨rfl, sA, rfl⟩ := hr.over; clear hr)
    | (go_at_call 9; refine (r11few_any p _ true (hid_yes HFP.out)).mono ?_; rintro e w' hr; obtain ⟨rfl, sA, rfl⟩ := hr.over; clear hr))
  go_ret
  exact Ret.mk (by repeat (first | exact ext_refl _ | apply ext_over | apply ext_alloc))
def TwRel (p : Pl) (lo hi : Nat) (L : Lay) (base : Nat) (w : World) (T m : Nat) (vh vi : Value) (wr : World) : Prop :=
  ∃ (i : Nat) (M : MS) (la had : List Int), vi = .int .i64 (i : Int) ∧ i ≤ m ∧ had.length ≤ i ∧ TwIn p lo hi L base w M la had had T vh wr
set_option maxRecDepth 8000 in
set_option maxHeartbeats 4000000 in
theorem twi_yes (p : Pl) (hf : p.few ∧ p.ok) (ls hs : List Int) (v v2 : Value) (w : World) (hls : Is w v ls) (hhs : Is w v2 hs) (hm : ls.length ≤ 40) (hm2 : hs.length ≤ 40) : Calls Tryz.prog 6 #[plV p, v, v2] w (Ret (.bool true) w) := by
  have HFP := Lib.hid hf
  have HP := Lib.hid hf.2
  have HX := Lib.hid hls
  have HXH := Lib.hid hhs
  obtain ⟨a0, cap, rfl, hcap, hcell⟩ := hls
  clear hcell
  obtain ⟨a02, cap2, rfl, hcap2, hcell⟩ := hhs
  clear hcell
  have hpt := hf.2.2.1
  have hpn := hf.2.1
  have hrr : 3 * p.t + 1 ≤ p.r ∧ p.r ≤ 1024 := hf.2.2.2.1
  have e1h : Hid (wrap64 (3 * p.t) = 3 * p.t) := Lib.hid (by unfold wrap64; omega)
  have d1 : decide (40 < (ls.length : Int)) = false := by simp; omega
  have d2 : decide (40 < (hs.length : Int)) = false := by simp; omega
  clear hf
  have hPop : ∀ W, Calls Tryz.prog 10 #[plV p, .agg #[.int .i64 0, .int .i64 2, .int .i64 0]] W (RetPopd p ⟨0, 2, 0⟩ W) := fun W => popped_any p HP.out ⟨0, 2, 0⟩ W
  replace hPop := Lib.hid hPop
  go_enter Tryz.func6, Tryz.ntmps6
  go_wp2_with (first
    | (go_at_call 8; refine (r11wake_any _).mono ?_; rintro e w' hr; obtain ⟨rfl, sA, rfl⟩ := hr.over; clear hr)
    | (go_at_call 9; refine (r11few_any p _ true (hid_yes HFP.out)).mono ?_; rintro e w' hr; obtain ⟨rfl, sA, rfl⟩ := hr.over; clear hr)
    | (go_at_call 10; refine Hid.out ?_))
  refine Lib.hid ?_
  refine (hPop.out _).mono ?_
  rintro e w1 ⟨lo, hi, L, M, rfl, hM, hPo, hx, hlo⟩
  have hx1 : Ext (w.alloc (.cells #[.int .i64 p.n, .int .i64 p.t, .int .i64 p.r, .int .i64 p.d, .int .i64 p.b, .int .i64 p.g] 23)) w1 := by
    refine ext_trans ?_ hx
    repeat (first | exact ext_refl _ | apply ext_over)
  have hlo1 : w.heap.size < lo := by
    refine Nat.lt_of_lt_of_le ?_ hlo
    refine Nat.lt_of_lt_of_le (m := (w.alloc (.cells #[.int .i64 p.n, .int .i64 p.t, .int .i64 p.r, .int .i64 p.d, .int .i64 p.b, .int .i64 p.g] 23)).heap.size) (by simp) ?_
    first | exact over_size _ _ | exact Nat.le_trans (over_size _ _) (over_size _ _) | exact Nat.le_trans (over_size _ _) (Nat.le_trans (over_size _ _) (over_size _ _))
  have hb0 : PBox w.heap.size p w1 := (hx1.block _ (by simp)).trans (heap_at w _ _ rfl)
  have hhi := hM.top
  have HI := Lib.hid (HIn.mk hM hPo.fl.mg (ext_trans (ext_alloc _ (ext_refl w)) hx1) hb0)
  have HPO := Lib.hid hPo
  clear hM hPo hx hx1 hlo hb0 hPop
  have hfl := HPO.out.fl
  rw [Nat.sub_self] at hfl
  obtain ⟨base, hbase⟩ : ∃ b, Hid (w1.heap.size = b) := ⟨_, Lib.hid rfl⟩
  have hbs : w.heap.size < base := by have := heap_lt HI.out.pb; have := hbase.out; omega
  have hhb : hi ≤ base := by have := hbase.out; omega
  have HS : Hid (TwIn p lo hi L base w M [] [] [] p.n.toNat (.slice none 0 0) w1) := Lib.hid ⟨HI.out, low_rts HP.out HPO.out.low (by omega) (by omega), hfl, IR.nil _ _, (fun _ h => by simp at h), (by simp), (by have := hbase.out; omega)⟩
  clear hfl HPO HI hhi
  go_wp2
  go_loopw [8, 9] (fun vh vi wr => TwRel p lo hi L base w p.n.toNat ls.length vh vi wr) (fun _ vi _ => (ls.length - intOf vi).toNat)
  case atStart => exact ⟨0, M, [], [], rfl, Nat.zero_le _, (by simp), HS.out⟩
  case round =>
    clear HS
    obtain ⟨i, M, la, had, rfl, him, hsum, hS⟩ := hrel
    have HR := Lib.hid hS
    clear hS
    have ⟨c0, c1, c2, c3, c4, c5, lt⟩ := HR.out.h.pb.plc
    by_cases hlt : i < ls.length
    · have hlt' : (i : Int) < ls.length := by omega
      obtain ⟨bb, ofs, rfl, hbl, hcell⟩ := HX.out.at (by omega)
      have d0 := hcell i hlt
      obtain ⟨y, hy⟩ : ∃ y, y = iN ls i := ⟨_, rfl⟩
      rw [← hy] at d0
      have d0w := Lib.hid d0
      replace d0 := ext_cell HR.out.h.ex d0
      have hbl2 := cell_lt d0
      have hbl3 : bb < lo := by omega
      clear hcell hy
      by_cases hy0 : 0 ≤ y
      · by_cases hy1 : y < p.n
        · have dy0 : decide (0 ≤ y) = true := decide_eq_true hy0
          have dy1 : decide (y < p.n) = true := decide_eq_true hy1
          by_cases hya : y ∈ had
          · go_wp2
            refine wp_region_over (by kernel_rfl) (by kernel_rfl) ?_
            repeat (go_big_quiet_step (first | (go_at_call 11; exact over_call (rhas_any had y _ _ true (hid_yes hya) (by omega) (HR.out.ih.ext (over_below _ _)).is))))
            refine wpQuiet_nil ?_
            intro _ hw'
            obtain ⟨sR, hw''⟩ := hw'
            subst hw''
            have HR2 := Lib.hid (HR.out.ext (over_below wr sR))
            clear c0 c1 c2 c3 c4 c5 lt d0 HR
            generalize over wr sR = wb at HR2 ⊢
            have ⟨c0, c1, c2, c3, c4, c5, lt⟩ := HR2.out.h.pb.plc
            go_wp2
            exact ⟨⟨i + 1, M, la, had, by go_num, by omega, by omega, HR2.out⟩, by simp [intOf]; omega⟩
          · go_wp2
            refine wp_region_over (by kernel_rfl) (by kernel_rfl) ?_
            repeat (go_big_quiet_step (first | (go_at_call 11; exact over_call (rhas_any had y _ _ false (hid_no hya) (by omega) (HR.out.ih.ext (over_below _ _)).is))))
            refine wpQuiet_nil ?_
            intro _ hw'
            obtain ⟨sR, hw''⟩ := hw'
            subst hw''
            have HR2 := Lib.hid (HR.out.ext (over_below wr sR))
            clear c0 c1 c2 c3 c4 c5 lt d0 HR
            generalize over wr sR = wb at HR2 ⊢
            have ⟨c0, c1, c2, c3, c4, c5, lt⟩ := HR2.out.h.pb.plc
            have hyr : InR p y := ⟨hy0, hy1⟩
            have hyl : y ∉ la := fun h => hya (HR2.out.sb y h)
            replace d0 := ext_cell HR2.out.h.ex d0w.out
            replace hbl2 := cell_lt d0
            have hpr := put_run HP.out HR2.out.h.mg (t := 0) (by omega) (by omega) HR2.out.ra hyr
            go_wp2_with (at_builtin; refine wpList_irow rfl (.tmp 72) (.tmp 77) rfl base _ had rfl (HR2.out.ih.ext (ext_alloc _ (ext_refl wb))) ⟨wb.heap.size, 0, none⟩ y rfl (newy _ _ _ _ rfl) (by omega) (by have := HR2.out.bs; simp; omega) ?_; intro v7 w7 hv7 hg7 hn7; refine Hid.out ?_)
            refine Lib.hid ?_
            have HR5 := Lib.hid ((HR2.out.ext (ext_alloc (.cells #[.int .i64 y] 3) (ext_refl wb))).row hhb hbs hv7 hg7)
            clear hv7 hg7 hn7 HR2 c0 c1 c2 c3 c4 c5 lt d0
            have ⟨c0, c1, c2, c3, c4, c5, lt⟩ := HR5.out.h.pb.plc
            have d0 := ext_cell HR5.out.h.ex d0w.out
            replace hbl2 := cell_lt d0
            by_cases hfu : (la.length : Int) = p.r
            · rw [if_pos hfu] at hpr
              obtain ⟨M1, r1, g1, s1⟩ := hpr
              have HR1 := Lib.hid r1
              have HN := Lib.hid (And.intro g1 s1)
              clear r1 g1 s1
              go_wp2
              refine wp_region_mix (fun w' => ∃ s, w' = off lo hi w7 s) [(0, [0, 1, 2, 3, 4, 6, 7]), (1, [5]), (1, [8]), (1, [9])] (by kernel_rfl) (by kernel_rfl) (off_of ((Fr.refl lo hi w7).drew)) ?_
              simp only [pieces, pickL, List.map_cons, List.map_nil, List.getD_cons_zero, List.getD_cons_succ]
              refine mix_reads ?_
              repeat (go_big_quiet_step (fail))
              refine wpQuiet_nil (mix_acts ?_)
              have HX0 := Lib.hid ((Fr.refl lo hi w7).drew)
              have HR6 := Lib.hid (HR5.out.ext (ext_drew (ext_refl w7)))
              have HH := Lib.hid HR6.out.h
              go_wp2_with (go_at_call 13; refine (rput_PT p 0 y _ HP.out (by omega) (by omega)).mono ?_; rintro e w4 ⟨v1, F1, rfl, hx2, hp1, hbn1, hsub1⟩; refine Hid.out ?_)
              refine Lib.hid ?_
              have HOF1 := Lib.hid (fun j (hj : F1 j) => (hsub1 j hj).elim (fun h => h.elim) fun h => (.inr (Nat.le_trans HH.out.m.top h) : j < lo ∨ hi ≤ j))
              have HH2 := Lib.hid (HH.out.ext hx2)
              have HP1 := Lib.hid hp1
              have HBN1 := Lib.hid hbn1
              have HX2 := Lib.hid (HX0.out.ext hx2)
              have HRb := Lib.hid (HR6.out.ext hx2)
              clear hx2 hp1 hbn1 hsub1
              go_wp2
              refine mixQ_mk (off_of HX2.out) (mix_acts ?_)
              go_wp2_with (go_at_call 14; refine (cap_int HH2.out.m 0 1#64 (by omega) (by rw [HH2.out.mg.n]; omega) (Lib.hid HH2.out.mg.e)).mono ?_; rintro e w5 ⟨rfl, hx3⟩; refine Hid.out ?_)
              refine Lib.hid ?_
              have HH3 := Lib.hid (HH2.out.ext hx3)
              replace HP1 := Lib.hid (HP1.out.agr (Agr.of_ext hx3 HBN1.out))
              replace HBN1 := Lib.hid (HBN1.out.ext hx3.size)
              have HX3 := Lib.hid (HX2.out.ext hx3)
              have HRc := Lib.hid (HRb.out.ext hx3)
              clear hx3
              go_wp2
              refine mixQ_mk (off_of HX3.out) (mix_acts ?_)
              go_wp2_with (go_at_call 12; refine (runI_any HR1.out 9 (by omega) (by omega) F1 v1 w5 HP1.out HBN1.out HOF1.out HH3.out.m).mono ?_; rintro e w6 ⟨rfl, hm4, hf4⟩; refine Hid.out ?_)
              refine Lib.hid ?_
              have HR8 := Lib.hid (HRc.out.same HP.out hm4 hf4 HN.out.1 hlo1 hhb HN.out.2)
              have HX4 := Lib.hid (HX3.out.trans hf4)
              clear hm4 hf4 HP1 HBN1 HOF1 HR5 HR6 HRb HRc HH HH2 HH3 HR1 HN HX0 HX2 HX3
              go_wp2
              refine mixQ_mk (off_of HX4.out) (mix_end ?_)
              clear c0 c1 c2 c3 c4 c5 lt d0
              go_wp2
              exact ⟨⟨i + 1, M1, _, _, by go_num, by omega, by simp; omega, HR8.out⟩, by simp [intOf]; omega⟩
            · rw [if_neg hfu] at hpr
              obtain ⟨M1, r1, g1, t1, s1⟩ := hpr
              have HR1 := Lib.hid r1
              have HN := Lib.hid (And.intro g1 (And.intro t1 s1))
              clear r1 g1 s1 t1
              go_wp2
              refine wp_region_mix (fun w' => ∃ s, w' = off lo hi w7 s) [(0, [0, 1, 2, 3, 4, 6, 7]), (1, [5]), (1, [8]), (1, [9])] (by kernel_rfl) (by kernel_rfl) (off_of ((Fr.refl lo hi w7).drew)) ?_
              simp only [pieces, pickL, List.map_cons, List.map_nil, List.getD_cons_zero, List.getD_cons_succ]
              refine mix_reads ?_
              repeat (go_big_quiet_step (fail))
              refine wpQuiet_nil (mix_acts ?_)
              have HX0 := Lib.hid ((Fr.refl lo hi w7).drew)
              have HR6 := Lib.hid (HR5.out.ext (ext_drew (ext_refl w7)))
              have HH := Lib.hid HR6.out.h
              go_wp2_with (go_at_call 13; refine (rput_PT p 0 y _ HP.out (by omega) (by omega)).mono ?_; rintro e w4 ⟨v1, F1, rfl, hx2, hp1, hbn1, hsub1⟩; refine Hid.out ?_)
              refine Lib.hid ?_
              have HOF1 := Lib.hid (fun j (hj : F1 j) => (hsub1 j hj).elim (fun h => h.elim) fun h => (.inr (Nat.le_trans HH.out.m.top h) : j < lo ∨ hi ≤ j))
              have HH2 := Lib.hid (HH.out.ext hx2)
              have HP1 := Lib.hid hp1
              have HBN1 := Lib.hid hbn1
              have HX2 := Lib.hid (HX0.out.ext hx2)
              have HRb := Lib.hid (HR6.out.ext hx2)
              clear hx2 hp1 hbn1 hsub1
              go_wp2
              refine mixQ_mk (off_of HX2.out) (mix_acts ?_)
              go_wp2_with (go_at_call 14; refine (cap_int HH2.out.m 0 1#64 (by omega) (by rw [HH2.out.mg.n]; omega) (Lib.hid HH2.out.mg.e)).mono ?_; rintro e w5 ⟨rfl, hx3⟩; refine Hid.out ?_)
              refine Lib.hid ?_
              have HH3 := Lib.hid (HH2.out.ext hx3)
              replace HP1 := Lib.hid (HP1.out.agr (Agr.of_ext hx3 HBN1.out))
              replace HBN1 := Lib.hid (HBN1.out.ext hx3.size)
              have HX3 := Lib.hid (HX2.out.ext hx3)
              have HRc := Lib.hid (HRb.out.ext hx3)
              clear hx3
              go_wp2
              refine mixQ_mk (off_of HX3.out) (mix_acts ?_)
              go_wp2_with (go_at_call 12; refine (runI_any HR1.out 9 (by omega) (by omega) F1 v1 w5 HP1.out HBN1.out HOF1.out HH3.out.m).mono ?_; rintro e w6 ⟨rfl, hm4, hf4⟩; refine Hid.out ?_)
              refine Lib.hid ?_
              have HR8 := Lib.hid (HRc.out.put HP.out hm4 hf4 HN.out.1 hlo1 hhb HN.out.2.1 HN.out.2.2 hyl (by simp))
              have HX4 := Lib.hid (HX3.out.trans hf4)
              clear hm4 hf4 HP1 HBN1 HOF1 HR5 HR6 HRb HRc HH HH2 HH3 HR1 HN HX0 HX2 HX3
              go_wp2
              refine mixQ_mk (off_of HX4.out) (mix_end ?_)
              clear c0 c1 c2 c3 c4 c5 lt d0
              go_wp2
              exact ⟨⟨i + 1, M1, _, _, by go_num, by omega, by simp; omega, HR8.out⟩, by simp [intOf]; omega⟩
        · have dy0 : decide (0 ≤ y) = true := decide_eq_true hy0
          have dy1 : decide (y < p.n) = false := decide_eq_false hy1
          go_wp2
          refine wp_region_over (by kernel_rfl) (by kernel_rfl) ?_
          repeat (go_big_quiet_step (fail))
          refine wpQuiet_nil ?_
          intro _ hw'
          obtain ⟨sR, hw''⟩ := hw'
          subst hw''
          have HR2 := Lib.hid (HR.out.ext (over_below wr sR))
          clear c0 c1 c2 c3 c4 c5 lt d0 HR
          generalize over wr sR = wb at HR2 ⊢
          have ⟨c0, c1, c2, c3, c4, c5, lt⟩ := HR2.out.h.pb.plc
          go_wp2
          exact ⟨⟨i + 1, M, la, had, by go_num, by omega, by omega, HR2.out⟩, by simp [intOf]; omega⟩
      · have dy0 : decide (0 ≤ y) = false := decide_eq_false hy0
        go_wp2
        refine wp_region_over (by kernel_rfl) (by kernel_rfl) ?_
        repeat (go_big_quiet_step (fail))
        refine wpQuiet_nil ?_
        intro _ hw'
        obtain ⟨sR, hw''⟩ := hw'
        subst hw''
        have HR2 := Lib.hid (HR.out.ext (over_below wr sR))
        clear c0 c1 c2 c3 c4 c5 lt d0 HR
        generalize over wr sR = wb at HR2 ⊢
        have ⟨c0, c1, c2, c3, c4, c5, lt⟩ := HR2.out.h.pb.plc
        go_wp2
        exact ⟨⟨i + 1, M, la, had, by go_num, by omega, by omega, HR2.out⟩, by simp [intOf]; omega⟩
    · have hnl4 : ls.length ≤ i := by omega
      have hnl5 : ¬ (i : Int) < ls.length := by omega
      have hnd := Lib.hid HR.out.nd
      have HR0 : Hid (MoIn p lo hi L w M la [] p.n.toNat wr) := Lib.hid ⟨HR.out.h, HR.out.ra, HR.out.fl⟩
      clear HR
      go_wp2
      clear hlt hnl4 hnl5 him hsum c0 c1 c2 c3 c4 c5 lt
      have e1 := e1h.out
      go_loopw [10] (fun vi wr => MhRel p lo hi L w la p.n.toNat hs.length vi wr) (fun vi _ => (hs.length - intOf vi).toNat)
      case atStart => exact ⟨0, M, rfl, Nat.zero_le _, HR0.out⟩
      case round =>
        clear HR0
        obtain ⟨i, M, rfl, hi1, hS⟩ := hrel
        have HR := Lib.hid hS
        clear hS
        have ⟨c0, c1, c2, c3, c4, c5, lt⟩ := HR.out.h.pb.plc
        by_cases hlt : i < hs.length
        · have hlt' : (i : Int) < hs.length := by omega
          by_cases hl3 : (i : Int) < 3 * p.t
          · obtain ⟨bb, ofs, rfl, hbl, hcell⟩ := HXH.out.at (by omega)
            have d0 := hcell i hlt
            obtain ⟨y, hy⟩ : ∃ y, y = iN hs i := ⟨_, rfl⟩
            rw [← hy] at d0
            replace d0 := ext_cell HR.out.h.ex d0
            have hbl2 := cell_lt d0
            have hbl3 : bb < lo := by omega
            clear hcell hy
            by_cases hy0 : 0 ≤ y
            · by_cases hy1 : y < p.n
              · have dy0 : decide (0 ≤ y) = true := by simp; omega
                have dy1 : decide (y < p.n) = true := by simp; omega
                have hdiv : Int.tdiv (i : Int) 3 = ((i / 3 : Nat) : Int) := by rw [Int.tdiv_eq_ediv_of_nonneg (by omega)]; omega
                have hmod : Int.tmod (i : Int) 3 = ((i % 3 : Nat) : Int) := by rw [Int.tmod_eq_emod_of_nonneg (by omega)]; omega
                have hi3 : ((i / 3 : Nat) : Int) < p.t := by omega
                have hi4 : ((i % 3 : Nat) : Int) < 3 := by omega
                have hS : ∀ W, Calls Tryz.prog 16 #[plV p, .int .i64 ((i / 3 : Nat) : Int), .int .i64 ((i % 3 : Nat) : Int), .int .i64 y] W (RetP (PT kN (setT (p.hazF ((i / 3 : Nat) : Int) ((i % 3 : Nat) : Int)) (nameW y))) noF W) := fun W => hset_PT p _ _ y (by omega) (by omega) W
                have hRn : ∀ (F1 : Nat → Prop) v1 w3, PT kN (setT (p.hazF ((i / 3 : Nat) : Int) ((i % 3 : Nat) : Int)) (nameW y)) F1 v1 w3 → Bnd F1 w3 → (∀ j, F1 j → j < lo ∨ hi ≤ j) → MemIn lo hi L M w3 → _ := fun F1 v1 w3 a b c d => runSetH p HP.out HR.out.h.mg ((i / 3 : Nat) : Int) ((i % 3 : Nat) : Int) (nameW y) (by omega) hi3 (by omega) hi4 F1 v1 w3 a b c d
                replace hS := Lib.hid hS
                replace hRn := Lib.hid hRn
                clear hi3 hi4
                have hw3 : Hid (wrap64 ((i / 3 : Nat) : Int) = ((i / 3 : Nat) : Int)) := Lib.hid (wr3 i (by omega))
                generalize i / 3 = i3 at hdiv hS hRn hw3
                generalize i % 3 = i4 at hmod hS hRn
                go_wp2
                refine wp_region_over (by kernel_rfl) (by kernel_rfl) ?_
                repeat (go_big_quiet_step (fail))
                refine wpQuiet_nil ?_
                intro _ hw'
                obtain ⟨sR, hw''⟩ := hw'
                subst hw''
                have HRa := Lib.hid (HR.out.ext (over_below wr sR))
                clear c0 c1 c2 c3 c4 c5 lt
                replace d0 := ext_cell (over_below wr sR) d0
                replace hbl2 := cell_lt d0
                generalize over wr sR = wa at HRa d0 hbl2 ⊢
                have ⟨c0, c1, c2, c3, c4, c5, lt⟩ := HRa.out.h.pb.plc
                clear e1
                replace hw3 := hw3.out
                go_wp2
                refine wp_region_mix (fun w' => ∃ s, w' = off lo hi wa s) [(0, [0, 1, 2, 3, 4, 5, 6, 7, 8, 10, 11]), (1, [9]), (1, [12]), (1, [13])] (by kernel_rfl) (by kernel_rfl) (off_of ((Fr.refl lo hi wa).drew)) ?_
                simp only [pieces, pickL, List.map_cons, List.map_nil, List.getD_cons_zero, List.getD_cons_succ]
                refine mix_reads ?_
                repeat (go_big_quiet_step (fail))
                refine wpQuiet_nil (mix_acts ?_)
                have HX0 := Lib.hid ((Fr.refl lo hi wa).drew)
                have HH := Lib.hid (HRa.out.h.ext (ext_drew (ext_refl wa)))
                go_wp2_with (go_at_call 16; refine (hS.out _).mono ?_; rintro e w2 ⟨v1, F1, rfl, hx2, hp1, hbn1, hsub1⟩; refine Hid.out ?_)
                refine Lib.hid ?_
                have HOF1 := Lib.hid (fun j (hj : F1 j) => (hsub1 j hj).elim (fun h => h.elim) fun h => (.inr (Nat.le_trans HH.out.m.top h) : j < lo ∨ hi ≤ j))
                have HH2 := Lib.hid (HH.out.ext hx2)
                have HP1 := Lib.hid hp1
                have HBN1 := Lib.hid hbn1
                have HX2 := Lib.hid (HX0.out.ext hx2)
                clear hx2 hp1 hbn1 hsub1
                clear hw3
                go_wp2
                refine mixQ_mk (off_of HX2.out) (mix_acts ?_)
                go_wp2_with (go_at_call 14; refine (cap_int HH2.out.m 0 1#64 (by omega) (by rw [HH2.out.mg.n]; omega) (Lib.hid HH2.out.mg.e)).mono ?_; rintro e w3 ⟨rfl, hx3⟩; refine Hid.out ?_)
                refine Lib.hid ?_
                have HH3 := Lib.hid (HH2.out.ext hx3)
                replace HP1 := Lib.hid (HP1.out.agr (Agr.of_ext hx3 HBN1.out))
                replace HBN1 := Lib.hid (HBN1.out.ext hx3.size)
                have HX3 := Lib.hid (HX2.out.ext hx3)
                clear hx3
                go_wp2
                refine mixQ_mk (off_of HX3.out) (mix_acts ?_)
                go_wp2_with (go_at_call 15; refine (hRn.out F1 v1 w3 HP1.out HBN1.out HOF1.out HH3.out.m).mono ?_; rintro e w4 ⟨M1, rfl, hm4, hf4, hz4⟩; refine Hid.out ?_)
                refine Lib.hid ?_
                have HI4 : Hid (MoIn p lo hi L w M1 la [] p.n.toNat w4) := Lib.hid ⟨HH3.out.ran hm4 hf4 hz4.mg (by omega) hlo1, hz4.rts HP.out (by omega) (by omega) HR.out.rt, hz4.fls HP.out HR.out.fl⟩
                have HX4 := Lib.hid (HX3.out.trans hf4)
                clear hm4 hf4 hz4 HP1 HBN1 HOF1 HX0 HX2 HX3 HH HH2 HH3 hS hRn
                go_wp2
                refine mixQ_mk (off_of HX4.out) (mix_end ?_)
                clear c0 c1 c2 c3 c4 c5 lt d0 HRa HR
                go_wp2
                exact ⟨⟨i + 1, M1, by go_num, by omega, HI4.out⟩, by simp [intOf]; omega⟩
              · have hy2 : p.n ≤ y := by omega
                have dy0 : decide (0 ≤ y) = true := by simp; omega
                have dy1 : decide (y < p.n) = false := by simp; omega
                go_wp2
                refine wp_region_over (by kernel_rfl) (by kernel_rfl) ?_
                repeat (go_big_quiet_step (fail))
                refine wpQuiet_nil ?_
                intro _ hw'
                obtain ⟨sR, hw''⟩ := hw'
                subst hw''
                have HRa := Lib.hid (HR.out.ext (over_below wr sR))
                clear c0 c1 c2 c3 c4 c5 lt d0
                go_wp2
                exact ⟨⟨i + 1, M, by go_num, by omega, HRa.out⟩, by simp [intOf]; omega⟩
            · have hy2 : y < 0 := by omega
              have dy0 : decide (0 ≤ y) = false := by simp; omega
              go_wp2
              refine wp_region_over (by kernel_rfl) (by kernel_rfl) ?_
              repeat (go_big_quiet_step (fail))
              refine wpQuiet_nil ?_
              intro _ hw'
              obtain ⟨sR, hw''⟩ := hw'
              subst hw''
              have HRa := Lib.hid (HR.out.ext (over_below wr sR))
              clear c0 c1 c2 c3 c4 c5 lt d0
              go_wp2
              exact ⟨⟨i + 1, M, by go_num, by omega, HRa.out⟩, by simp [intOf]; omega⟩
          · have hnl3 : 3 * p.t ≤ (i : Int) := by omega
            obtain ⟨M2, T2, s2, l1, fl1, r2, hs2, g2, t2, f2, hl1, M3, T3, s3, r3, hs3, g3, t3, f3⟩ := scan_twice HP.out (by omega) HR.out.h.mg HR.out.rt HR.out.fl hnd.out
            have hll := HR.out.rt.len
            have HRT1 := Lib.hid HR.out.rt
            have HMG1 := Lib.hid HR.out.h.mg
            obtain ⟨kx, hkx⟩ : ∃ kx : Int, kx = (la.length : Int) - (l1.length : Int) := ⟨_, rfl⟩
            rw [← hkx] at r2
            have HR2 := Lib.hid r2
            have HR3 := Lib.hid r3
            have HG2 := Lib.hid (And.intro g2 (And.intro t2 f2))
            have HG3 := Lib.hid (And.intro g3 (And.intro t3 f3))
            have hf1 := nodup_le (by omega) f2.nd f2.rg
            have ek : Hid (wrap64 (kx + (l1.length : Int)) = (la.length : Int)) := Lib.hid (by unfold wrap64; omega)
            clear r2 r3 g2 t2 f2 g3 t3 f3 hkx e1
            have HH := Lib.hid HR.out.h
            clear HR
            go_wp2_with (go_at_call 21; refine (rlist_any p HP.out 0 (by omega) (by omega) la HMG1.out HRT1.out HH.out.m).mono ?_; rintro e w2 ⟨v5, rfl, hv5, hx5⟩; refine Hid.out ?_)
            refine Lib.hid ?_
            obtain ⟨v5a, v5c, rfl⟩ := hv5.slice
            have HH1 := Lib.hid (HH.out.ext hx5)
            clear hv5 hx5 HH c0 c1 c2 c3 c4 c5 lt
            have ⟨c0, c1, c2, c3, c4, c5, lt⟩ := HH1.out.pb.plc
            go_wp2_with (go_at_call 17; refine (scan_PT p 0 2 _ HP.out).mono ?_; rintro e w3 ⟨v1, F1, rfl, hx2, hp1, hbn1, hsub1⟩; refine Hid.out ?_)
            refine Lib.hid ?_
            have HOF1 := Lib.hid (fun j (hj : F1 j) => (hsub1 j hj).elim (fun h => h.elim) fun h => (.inr (Nat.le_trans HH1.out.m.top h) : j < lo ∨ hi ≤ j))
            have HH2 := Lib.hid (HH1.out.ext hx2)
            have HP1 := Lib.hid hp1
            have HBN1 := Lib.hid hbn1
            clear hx2 hp1 hbn1 hsub1
            go_wp2_with (go_at_call 14; refine (cap_int HH2.out.m 0 1#64 (by omega) (by rw [HH2.out.mg.n]; omega) (Lib.hid HH2.out.mg.e)).mono ?_; rintro e w4 ⟨rfl, hx3⟩; refine Hid.out ?_)
            refine Lib.hid ?_
            have HH3 := Lib.hid (HH2.out.ext hx3)
            replace HP1 := Lib.hid (HP1.out.agr (Agr.of_ext hx3 HBN1.out))
            replace HBN1 := Lib.hid (HBN1.out.ext hx3.size)
            clear hx3
            go_wp2_with (go_at_call 12; refine (runI_any HR2.out 100000 (by omega) (by omega) F1 v1 w4 HP1.out HBN1.out HOF1.out HH3.out.m).mono ?_; rintro e w5 ⟨rfl, hm4, hf4⟩; refine Hid.out ?_)
            refine Lib.hid ?_
            have HI5 := Lib.hid (HH3.out.ran hm4 hf4 HG2.out.1 (by omega) hlo1)
            clear hm4 hf4 HP1 HBN1 HOF1 HH1 HH2 HH3 HR2 c0 c1 c2 c3 c4 c5 lt
            have ⟨c0, c1, c2, c3, c4, c5, lt⟩ := HI5.out.pb.plc
            go_wp2
            refine wp_region_mix (fun w' => ∃ s, w' = over w5 s) [(0, [0, 1, 3, 4]), (1, [2]), (1, [5]), (0, [6, 7])] (by kernel_rfl) (by kernel_rfl) (over_of (ext_drew (ext_refl w5))) ?_
            simp only [pieces, pickL, List.map_cons, List.map_nil, List.getD_cons_zero, List.getD_cons_succ]
            refine mix_reads ?_
            repeat (go_big_quiet_step (fail))
            refine wpQuiet_nil (mix_acts ?_)
            have HI6 := Lib.hid (HI5.out.ext (ext_drew (ext_refl w5)))
            have HX6 := Lib.hid (ext_drew (ext_refl w5))
            go_wp2_with (go_at_call 21; refine (rlist_any p HP.out 0 (by omega) (by omega) l1 HG2.out.1 HG2.out.2.1 HI6.out.m).mono ?_; rintro e w6 ⟨va, rfl, hva, hx⟩; refine Hid.out ?_)
            refine Lib.hid ?_
            have HI7 := Lib.hid (HI6.out.ext hx)
            have HX7 := Lib.hid (ext_trans HX6.out hx)
            have HVA := Lib.hid (hva.mono (base' := hi) (HI6.out.m.top))
            obtain ⟨vaa, vac, rfl⟩ := hva.slice
            clear hva hx HI6 HX6
            go_wp2
            refine mixQ_mk (over_of HX7.out) (mix_acts ?_)
            go_wp2_with (go_at_call 22; refine (flist_any p HP.out fl1 T2 HG2.out.2.2 HI7.out.m).mono ?_; rintro e w7 ⟨vf, rfl, hvf, hx⟩; refine Hid.out ?_)
            refine Lib.hid ?_
            have HI8 := Lib.hid (HI7.out.ext hx)
            have HX8 := Lib.hid (ext_trans HX7.out hx)
            have HVA8 := Lib.hid (HVA.out.ext hx)
            have HVF8 := Lib.hid (hvf.mono (base' := hi) (HI7.out.m.top))
            obtain ⟨vfa, vfc, rfl⟩ := hvf.slice
            clear hvf hx HI7 HX7 HVA
            go_wp2
            refine mixQ_mk (over_of HX8.out) (mix_reads ?_)
            repeat (go_big_quiet_step (fail))
            refine wpQuiet_nil (mix_end ?_)
            clear HX8 c0 c1 c2 c3 c4 c5 lt HI5
            have ⟨c0, c1, c2, c3, c4, c5, lt⟩ := HI8.out.pb.plc
            go_wp2_with (go_at_call 17; refine (scan_PT p 0 2 _ HP.out).mono ?_; rintro e w8 ⟨v1, F1, rfl, hx2, hp1, hbn1, hsub1⟩; refine Hid.out ?_)
            refine Lib.hid ?_
            have HOF1 := Lib.hid (fun j (hj : F1 j) => (hsub1 j hj).elim (fun h => h.elim) fun h => (.inr (Nat.le_trans HI8.out.m.top h) : j < lo ∨ hi ≤ j))
            have HH2 := Lib.hid (HI8.out.ext hx2)
            have HP1 := Lib.hid hp1
            have HBN1 := Lib.hid hbn1
            have HVAb := Lib.hid (HVA8.out.ext hx2)
            have HVFb := Lib.hid (HVF8.out.ext hx2)
            clear hx2 hp1 hbn1 hsub1
            go_wp2_with (go_at_call 14; refine (cap_int HH2.out.m 0 1#64 (by omega) (by rw [HH2.out.mg.n]; omega) (Lib.hid HH2.out.mg.e)).mono ?_; rintro e w9 ⟨rfl, hx3⟩; refine Hid.out ?_)
            refine Lib.hid ?_
            have HH3 := Lib.hid (HH2.out.ext hx3)
            replace HP1 := Lib.hid (HP1.out.agr (Agr.of_ext hx3 HBN1.out))
            replace HBN1 := Lib.hid (HBN1.out.ext hx3.size)
            have HVAc := Lib.hid (HVAb.out.ext hx3)
            have HVFc := Lib.hid (HVFb.out.ext hx3)
            clear hx3
            go_wp2_with (go_at_call 12; refine (runI_any HR3.out 100000 (by omega) (by omega) F1 v1 w9 HP1.out HBN1.out HOF1.out HH3.out.m).mono ?_; rintro e w10 ⟨rfl, hm4, hf4⟩; refine Hid.out ?_)
            refine Lib.hid ?_
            have HI9 := Lib.hid (HH3.out.ran hm4 hf4 HG3.out.1 (by omega) hlo1)
            have HVA9 := Lib.hid (HVAc.out.fr hf4 (Nat.le_refl _))
            have HVF9 := Lib.hid (HVFc.out.fr hf4 (Nat.le_refl _))
            clear hm4 hf4 HP1 HBN1 HOF1 HI8 HH2 HH3 HR3 HVA8 HVF8 HVAb HVFb HVAc HVFc c0 c1 c2 c3 c4 c5 lt
            have ⟨c0, c1, c2, c3, c4, c5, lt⟩ := HI9.out.pb.plc
            replace ek := ek.out
            go_wp2_with (go_at_call 21; refine (rlist_any p HP.out 0 (by omega) (by omega) l1 HG3.out.1 HG3.out.2.1 HI9.out.m).mono ?_; rintro e w11 ⟨vb, rfl, hvb, hx⟩; refine Hid.out ?_)
            refine Lib.hid ?_
            have HI10 := Lib.hid (HI9.out.ext hx)
            have HVA10 := Lib.hid (HVA9.out.ext hx)
            have HVF10 := Lib.hid (HVF9.out.ext hx)
            have HVB := Lib.hid hvb
            clear hvb hx HI9 HVA9 HVF9 c0 c1 c2 c3 c4 c5 lt
            go_wp2_with (go_at_call 20; refine (rsame_yes l1 _ _ _ (by omega) HVA10.out.is HVB.out.is).mono ?_; rintro e w12 ⟨rfl, hx⟩; refine Hid.out ?_)
            refine Lib.hid ?_
            have HI11 := Lib.hid (HI10.out.ext hx)
            have HVF11 := Lib.hid (HVF10.out.ext hx)
            clear hx HI10 HVF10 HVA10 HVB
            have ⟨c0, c1, c2, c3, c4, c5, lt⟩ := HI11.out.pb.plc
            go_wp2_with (go_at_call 22; refine (flist_any p HP.out fl1 T3 HG3.out.2.2 HI11.out.m).mono ?_; rintro e w13 ⟨vg, rfl, hvg, hx⟩; refine Hid.out ?_)
            refine Lib.hid ?_
            have HI12 := Lib.hid (HI11.out.ext hx)
            have HVF12 := Lib.hid (HVF11.out.ext hx)
            have HVG := Lib.hid hvg
            clear hvg hx HI11 HVF11 c0 c1 c2 c3 c4 c5 lt
            go_wp2_with (go_at_call 20; refine (rsame_yes fl1 _ _ _ (by omega) HVF12.out.is HVG.out.is).mono ?_; rintro e w14 ⟨rfl, hx⟩; have HX14 := Lib.hid (ext_trans HI12.out.ex hx); clear hx)
            go_ret
            exact Ret.bool (by first | rfl | simp) HX14.out
        · have hnl4 : hs.length ≤ i := by omega
          have hnl5 : ¬ (i : Int) < hs.length := by omega
          obtain ⟨M2, T2, s2, l1, fl1, r2, hs2, g2, t2, f2, hl1, M3, T3, s3, r3, hs3, g3, t3, f3⟩ := scan_twice HP.out (by omega) HR.out.h.mg HR.out.rt HR.out.fl hnd.out
          have hll := HR.out.rt.len
          have HRT1 := Lib.hid HR.out.rt
          have HMG1 := Lib.hid HR.out.h.mg
          obtain ⟨kx, hkx⟩ : ∃ kx : Int, kx = (la.length : Int) - (l1.length : Int) := ⟨_, rfl⟩
          rw [← hkx] at r2
          have HR2 := Lib.hid r2
          have HR3 := Lib.hid r3
          have HG2 := Lib.hid (And.intro g2 (And.intro t2 f2))
          have HG3 := Lib.hid (And.intro g3 (And.intro t3 f3))
          have hf1 := nodup_le (by omega) f2.nd f2.rg
          have ek : Hid (wrap64 (kx + (l1.length : Int)) = (la.length : Int)) := Lib.hid (by unfold wrap64; omega)
          clear r2 r3 g2 t2 f2 g3 t3 f3 hkx e1
          have HH := Lib.hid HR.out.h
          clear HR
          go_wp2_with (go_at_call 21; refine (rlist_any p HP.out 0 (by omega) (by omega) la HMG1.out HRT1.out HH.out.m).mono ?_; rintro e w2 ⟨v5, rfl, hv5, hx5⟩; refine Hid.out ?_)
          refine Lib.hid ?_
          obtain ⟨v5a, v5c, rfl⟩ := hv5.slice
          have HH1 := Lib.hid (HH.out.ext hx5)
          clear hv5 hx5 HH c0 c1 c2 c3 c4 c5 lt
          have ⟨c0, c1, c2, c3, c4, c5, lt⟩ := HH1.out.pb.plc
          go_wp2_with (go_at_call 17; refine (scan_PT p 0 2 _ HP.out).mono ?_; rintro e w3 ⟨v1, F1, rfl, hx2, hp1, hbn1, hsub1⟩; refine Hid.out ?_)
          refine Lib.hid ?_
          have HOF1 := Lib.hid (fun j (hj : F1 j) => (hsub1 j hj).elim (fun h => h.elim) fun h => (.inr (Nat.le_trans HH1.out.m.top h) : j < lo ∨ hi ≤ j))
          have HH2 := Lib.hid (HH1.out.ext hx2)
          have HP1 := Lib.hid hp1
          have HBN1 := Lib.hid hbn1
          clear hx2 hp1 hbn1 hsub1
          go_wp2_with (go_at_call 14; refine (cap_int HH2.out.m 0 1#64 (by omega) (by rw [HH2.out.mg.n]; omega) (Lib.hid HH2.out.mg.e)).mono ?_; rintro e w4 ⟨rfl, hx3⟩; refine Hid.out ?_)
          refine Lib.hid ?_
          have HH3 := Lib.hid (HH2.out.ext hx3)
          replace HP1 := Lib.hid (HP1.out.agr (Agr.of_ext hx3 HBN1.out))
          replace HBN1 := Lib.hid (HBN1.out.ext hx3.size)
          clear hx3
          go_wp2_with (go_at_call 12; refine (runI_any HR2.out 100000 (by omega) (by omega) F1 v1 w4 HP1.out HBN1.out HOF1.out HH3.out.m).mono ?_; rintro e w5 ⟨rfl, hm4, hf4⟩; refine Hid.out ?_)
          refine Lib.hid ?_
          have HI5 := Lib.hid (HH3.out.ran hm4 hf4 HG2.out.1 (by omega) hlo1)
          clear hm4 hf4 HP1 HBN1 HOF1 HH1 HH2 HH3 HR2 c0 c1 c2 c3 c4 c5 lt
          have ⟨c0, c1, c2, c3, c4, c5, lt⟩ := HI5.out.pb.plc
          go_wp2
          refine wp_region_mix (fun w' => ∃ s, w' = over w5 s) [(0, [0, 1, 3, 4]), (1, [2]), (1, [5]), (0, [6, 7])] (by kernel_rfl) (by kernel_rfl) (over_of (ext_drew (ext_refl w5))) ?_
          simp only [pieces, pickL, List.map_cons, List.map_nil, List.getD_cons_zero, List.getD_cons_succ]
          refine mix_reads ?_
          repeat (go_big_quiet_step (fail))
          refine wpQuiet_nil (mix_acts ?_)
          have HI6 := Lib.hid (HI5.out.ext (ext_drew (ext_refl w5)))
          have HX6 := Lib.hid (ext_drew (ext_refl w5))
          go_wp2_with (go_at_call 21; refine (rlist_any p HP.out 0 (by omega) (by omega) l1 HG2.out.1 HG2.out.2.1 HI6.out.m).mono ?_; rintro e w6 ⟨va, rfl, hva, hx⟩; refine Hid.out ?_)
          refine Lib.hid ?_
          have HI7 := Lib.hid (HI6.out.ext hx)
          have HX7 := Lib.hid (ext_trans HX6.out hx)
          have HVA := Lib.hid (hva.mono (base' := hi) (HI6.out.m.top))
          obtain ⟨vaa, vac, rfl⟩ := hva.slice
          clear hva hx HI6 HX6
          go_wp2
          refine mixQ_mk (over_of HX7.out) (mix_acts ?_)
          go_wp2_with (go_at_call 22; refine (flist_any p HP.out fl1 T2 HG2.out.2.2 HI7.out.m).mono ?_; rintro e w7 ⟨vf, rfl, hvf, hx⟩; refine Hid.out ?_)
          refine Lib.hid ?_
          have HI8 := Lib.hid (HI7.out.ext hx)
          have HX8 := Lib.hid (ext_trans HX7.out hx)
          have HVA8 := Lib.hid (HVA.out.ext hx)
          have HVF8 := Lib.hid (hvf.mono (base' := hi) (HI7.out.m.top))
          obtain ⟨vfa, vfc, rfl⟩ := hvf.slice
          clear hvf hx HI7 HX7 HVA
          go_wp2
          refine mixQ_mk (over_of HX8.out) (mix_reads ?_)
          repeat (go_big_quiet_step (fail))
          refine wpQuiet_nil (mix_end ?_)
          clear HX8 c0 c1 c2 c3 c4 c5 lt HI5
          have ⟨c0, c1, c2, c3, c4, c5, lt⟩ := HI8.out.pb.plc
          go_wp2_with (go_at_call 17; refine (scan_PT p 0 2 _ HP.out).mono ?_; rintro e w8 ⟨v1, F1, rfl, hx2, hp1, hbn1, hsub1⟩; refine Hid.out ?_)
          refine Lib.hid ?_
          have HOF1 := Lib.hid (fun j (hj : F1 j) => (hsub1 j hj).elim (fun h => h.elim) fun h => (.inr (Nat.le_trans HI8.out.m.top h) : j < lo ∨ hi ≤ j))
          have HH2 := Lib.hid (HI8.out.ext hx2)
          have HP1 := Lib.hid hp1
          have HBN1 := Lib.hid hbn1
          have HVAb := Lib.hid (HVA8.out.ext hx2)
          have HVFb := Lib.hid (HVF8.out.ext hx2)
          clear hx2 hp1 hbn1 hsub1
          go_wp2_with (go_at_call 14; refine (cap_int HH2.out.m 0 1#64 (by omega) (by rw [HH2.out.mg.n]; omega) (Lib.hid HH2.out.mg.e)).mono ?_; rintro e w9 ⟨rfl, hx3⟩; refine Hid.out ?_)
          refine Lib.hid ?_
          have HH3 := Lib.hid (HH2.out.ext hx3)
          replace HP1 := Lib.hid (HP1.out.agr (Agr.of_ext hx3 HBN1.out))
          replace HBN1 := Lib.hid (HBN1.out.ext hx3.size)
          have HVAc := Lib.hid (HVAb.out.ext hx3)
          have HVFc := Lib.hid (HVFb.out.ext hx3)
          clear hx3
          go_wp2_with (go_at_call 12; refine (runI_any HR3.out 100000 (by omega) (by omega) F1 v1 w9 HP1.out HBN1.out HOF1.out HH3.out.m).mono ?_; rintro e w10 ⟨rfl, hm4, hf4⟩; refine Hid.out ?_)
          refine Lib.hid ?_
          have HI9 := Lib.hid (HH3.out.ran hm4 hf4 HG3.out.1 (by omega) hlo1)
          have HVA9 := Lib.hid (HVAc.out.fr hf4 (Nat.le_refl _))
          have HVF9 := Lib.hid (HVFc.out.fr hf4 (Nat.le_refl _))
          clear hm4 hf4 HP1 HBN1 HOF1 HI8 HH2 HH3 HR3 HVA8 HVF8 HVAb HVFb HVAc HVFc c0 c1 c2 c3 c4 c5 lt
          have ⟨c0, c1, c2, c3, c4, c5, lt⟩ := HI9.out.pb.plc
          replace ek := ek.out
          go_wp2_with (go_at_call 21; refine (rlist_any p HP.out 0 (by omega) (by omega) l1 HG3.out.1 HG3.out.2.1 HI9.out.m).mono ?_; rintro e w11 ⟨vb, rfl, hvb, hx⟩; refine Hid.out ?_)
          refine Lib.hid ?_
          have HI10 := Lib.hid (HI9.out.ext hx)
          have HVA10 := Lib.hid (HVA9.out.ext hx)
          have HVF10 := Lib.hid (HVF9.out.ext hx)
          have HVB := Lib.hid hvb
          clear hvb hx HI9 HVA9 HVF9 c0 c1 c2 c3 c4 c5 lt
          go_wp2_with (go_at_call 20; refine (rsame_yes l1 _ _ _ (by omega) HVA10.out.is HVB.out.is).mono ?_; rintro e w12 ⟨rfl, hx⟩; refine Hid.out ?_)
          refine Lib.hid ?_
          have HI11 := Lib.hid (HI10.out.ext hx)
          have HVF11 := Lib.hid (HVF10.out.ext hx)
          clear hx HI10 HVF10 HVA10 HVB
          have ⟨c0, c1, c2, c3, c4, c5, lt⟩ := HI11.out.pb.plc
          go_wp2_with (go_at_call 22; refine (flist_any p HP.out fl1 T3 HG3.out.2.2 HI11.out.m).mono ?_; rintro e w13 ⟨vg, rfl, hvg, hx⟩; refine Hid.out ?_)
          refine Lib.hid ?_
          have HI12 := Lib.hid (HI11.out.ext hx)
          have HVF12 := Lib.hid (HVF11.out.ext hx)
          have HVG := Lib.hid hvg
          clear hvg hx HI11 HVF11 c0 c1 c2 c3 c4 c5 lt
          go_wp2_with (go_at_call 20; refine (rsame_yes fl1 _ _ _ (by omega) HVF12.out.is HVG.out.is).mono ?_; rintro e w14 ⟨rfl, hx⟩; have HX14 := Lib.hid (ext_trans HI12.out.ex hx); clear hx)
          go_ret
          exact Ret.bool (by first | rfl | simp) HX14.out
end Go.Proofs.YtlapcocljjgjlaaGreat
