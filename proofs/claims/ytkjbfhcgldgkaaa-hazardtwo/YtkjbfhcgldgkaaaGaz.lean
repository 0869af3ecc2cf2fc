/-
  The law HazardTwo, walked. Conditions: those of each theorem.
-/
import Derived.Test.YtkjbfhcgldgkaaaGay
import Derived.Deep.Cut
namespace Go.Proofs.Ytkjbfhcgldgkaaa
open Go Go.RowKit

theorem p4ok : Pl.ok ⟨4, 2, 7, 0, 1, 9⟩ := by unfold Pl.ok; decide
set_option maxRecDepth 8000 in
set_option maxHeartbeats 1000000 in
theorem two_long (x : BitVec 64) (a : Int) (b : Option Addr) (m c : Nat) (hm : 20 < m) (w : World) : Calls Try.prog 8 #[.int .u64 (U x), .int .u8 a, .slice b m c] w (Ret (.bool true) w) := by
  have q2 : decide (20 < (m : Int)) = true := by simp; omega
  go_enter Try.func8, Try.ntmps8
  go_wp2_with (go_at_call 17; refine (hwake_any _).mono ?_; rintro e w' hr; obtain ⟨rfl, sA, rfl⟩ := hr.over; clear hr)
  go_ret
  exact Ret.mk (by repeat (first | exact ext_refl _ | apply ext_over | apply ext_alloc))
/-- Both guards, in their row. -/
def TwRel (p : Pl) (at_ : Int) (sh : Nat) (W : BitVec 64) (lo hi : Nat) (L : Lay) (B bg : Nat) (w0 : World) (m : Nat) (vi : Value) (wr : World) : Prop :=
  ∃ (i N0 N1 : Nat) (M : MS) (g0 g1 : GS) (F0 F1 : Nat → Prop) (y0 y1 : Int) (a0 a1 : Acc) (f0 f1 : Value), vi = .int .i64 (i : Int) ∧ i ≤ m + 8 ∧ HIn p lo hi L B w0 M wr ∧ M.wd 0 at_.toNat = W ∧ Blk bg (.cells #[.int .u64 y0, .int .i64 a0.op, .int .i64 a0.at_, .int .u64 (U a0.a), .int .u64 (U a0.b), f0, .pointer none, .int .u64 y1, .int .i64 a1.op, .int .i64 a1.at_, .int .u64 (U a1.a), .int .u64 (U a1.b), f1, .pointer none] 79) wr ∧
    GOne p 0 1 at_ sh W lo hi bg N0 g0 F0 y0 a0 f0 M wr ∧ GOne p 1 2 at_ sh W lo hi bg N1 g1 F1 y1 a1 f1 M wr ∧ g0.mu W 0 ≤ 3 - ((i + 1) / 2 - (m + 1) / 2) ∧ g1.mu W 0 ≤ 3 - (i / 2 - m / 2)
theorem mu_zero {W : BitVec 64} {g : GS} (hw : g.of W) (h : g.mu W 0 = 0) : g = .dn W := by
  cases g with
  | ld => simp [GS.mu] at h
  | st x => simp only [GS.mu] at h; split at h <;> omega
  | rl x => simp only [GS.mu] at h; split at h <;> omega
  | dn x => exact congrArg _ hw
theorem mu_le3 {W : BitVec 64} {g : GS} (hw : g.of W) : g.mu W 0 ≤ 3 := by
  cases g with
  | ld => simp [GS.mu]
  | st x => simp only [GS.mu]; rw [if_pos (Eq.symm hw)]; omega
  | rl x => simp only [GS.mu]; rw [if_pos (Eq.symm hw)]; omega
  | dn x => simp [GS.mu]
set_option maxRecDepth 8000 in
set_option maxHeartbeats 4000000 in
theorem two_yes (x : BitVec 64) (a : Int) (ha0 : 0 ≤ a) (ps : List Bool) (v : Value) (w : World) (hB : Bs w v ps) (hm : ps.length ≤ 20) : Calls Try.prog 8 #[.int .u64 (U x), .int .u8 a, v] w (Ret (.bool true) w) := by
  have HXX := Lib.hid hB
  obtain ⟨b0, cap, rfl, _, _⟩ := hB
  have q2 : decide (20 < (ps.length : Int)) = false := by simp; omega
  obtain ⟨sh, hsh⟩ : ∃ k : Nat, a % 3 = (k : Int) := ⟨(a % 3).toNat, by omega⟩
  have hsh2 : sh < 64 := by omega
  have hmod : Int.tmod a 3 = (sh : Int) := by rw [Int.tmod_eq_emod_of_nonneg ha0]; exact hsh
  clear hsh
  have hL := fun W => laidZ_any ⟨4, 2, 7, 0, 1, 9⟩ p4ok W
  have HL := Lib.hid hL
  clear hL
  go_enter Try.func8, Try.ntmps8
  go_wp2_with (go_at_call 17; refine (hwake_any _).mono ?_; rintro e wA ⟨rfl, hxA⟩; refine Hid.out ?_)
  refine Lib.hid ?_
  replace hxA := Lib.hid hxA
  go_wp2_with (go_at_call 12; refine Hid.out ?_)
  refine Lib.hid ?_
  refine (HL.out _).mono ?_
  rintro e w1 ⟨lo, hi, L, M, rfl, hM, hF, hx, hlo⟩
  obtain ⟨B, hBB⟩ : ∃ b, Hid (wA.heap.size = b) := ⟨_, Lib.hid rfl⟩
  have hb0 : PBox B ⟨4, 2, 7, 0, 1, 9⟩ w1 := (hx.block _ (by have := hBB.out; simp; omega)).trans (heap_at _ _ _ hBB.out.symm)
  have hlo1 : B < lo := by have := hBB.out; simp at hlo; omega
  have hwB : w.heap.size ≤ B := by have := hxA.out.size; have := hBB.out; omega
  have hE : Ext w w1 := ext_trans (ext_alloc _ hxA.out) hx
  obtain ⟨p, hp⟩ : ∃ q, Hid ((Pl.mk 4 2 7 0 1 9) = q) := ⟨_, Lib.hid rfl⟩
  have HI0 := HIn.mk hM hF.1.mg hE hb0
  have hz0 := hF.2
  rw [hp.out] at HI0 hz0
  have hok : p.ok := by rw [← hp.out]; exact p4ok
  have hpt : p.t = 2 := by rw [← hp.out]
  have hpn : p.n = 4 := by rw [← hp.out]
  have HP := Lib.hid hok
  have HI := Lib.hid HI0
  have HZ := Lib.hid hz0
  rw [hBB.out]
  clear hM hF hx hlo hb0 hE HI0 hz0 hok HL hxA
  have hhi := HI.out.m.top
  have ⟨c0, c1, c2, c3, c4, c5, lt⟩ := HI.out.pb.plc
  obtain ⟨at_, hat⟩ : ∃ a, Hid (p.fdF 3 0 = a) := ⟨_, Lib.hid rfl⟩
  have hpl := fd_place HP.out (n := 3) (f := 0) ⟨by omega, by omega⟩ (by omega) (by omega)
  rw [hat.out] at hpl
  have hat0 := hpl.1
  have hat1 := hpl.2.1
  have hat2 := Lib.hid hpl.2.2
  obtain ⟨x2, hx2⟩ : ∃ y, Hid (BitVec.ofNat 64 (x.toNat % 1099511627776) = y) := ⟨_, Lib.hid rfl⟩
  have h40 := w40 x
  rw [hx2.out] at h40
  have e40 := h40.1
  have b40 := h40.2
  clear hpl h40 hx2
  replace hpt := Lib.hid hpt
  replace hpn := Lib.hid hpn
  go_wp2_with (go_at_call 28; refine (field_is p 3 0 _ at_ hat).mono ?_; rintro e w2 ⟨rfl, hx⟩; refine Hid.out ?_)
  refine Lib.hid ?_
  have HI2 := Lib.hid (HI.out.ext hx)
  clear hx HI c0 c1 c2 c3 c4 c5 lt
  have ⟨c0, c1, c2, c3, c4, c5, lt⟩ := HI2.out.pb.plc
  go_wp2_with (go_at_call 21; refine (cap_int HI2.out.m 0 1#64 (by omega) (by rw [HI2.out.mg.n]; omega) (Lib.hid HI2.out.mg.e)).mono ?_; rintro e w3 ⟨rfl, hx3⟩; refine Hid.out ?_)
  refine Lib.hid ?_
  have HI3 := Lib.hid (HI2.out.ext hx3)
  clear hx3
  go_wp2_with (go_at_call 30; refine (do_int HI3.out.m 0 1 at_ _ _ 0 _ 1#64 x2 0#64 _ rfl rfl U_0.symm (HI3.out.mg.ok hat0 hat1 (by omega) (by omega)) (Lib.hid rfl) (Lib.hid rfl)).mono ?_; rintro e w4 ⟨rfl, hm4, hf4⟩; refine Hid.out ?_)
  refine Lib.hid ?_
  obtain ⟨M1, hM1⟩ : ∃ X, Hid (M.done 0 1 at_ x2 0#64 = X) := ⟨_, Lib.hid rfl⟩
  have hwd : ∀ j, M1.wd 0 j = if j = at_.toNat then x2 else M.wd 0 j := fun j => by rw [← hM1.out]; exact wd_store M at_ x2 0#64 j
  have hmg1 : Mg p M1 := by rw [← hM1.out]; exact HI3.out.mg.done _ _ _ _ _
  rw [hM1.out] at hm4
  have HI4 := Lib.hid (HI3.out.ran hm4 hf4 hmg1 (by omega) hlo1)
  have hxw : M1.wd 0 at_.toNat = x2 := by rw [hwd, if_pos rfl]
  have hzw : ∀ i : Nat, (i : Int) < 3 * p.t → hzW p M1 i = 0#64 := fun i hi => by
    show M1.wd 0 (hzN p i) = _
    rw [hwd, if_neg fun h => hat2.out _ hi h.symm]
    exact hz_zero HP.out HZ.out hi
  replace hxw := Lib.hid hxw
  replace hzw := Lib.hid hzw
  clear hm4 hf4 hwd hmg1 hM1 HI2 HI3 HZ c0 c1 c2 c3 c4 c5 lt
  have ⟨c0, c1, c2, c3, c4, c5, lt⟩ := HI4.out.pb.plc
  go_wp2
  refine wp_region_mix (fun w' => ∃ s, w' = over w4 s) [(0, [0, 1, 2, 4, 5, 6]), (1, [3]), (1, [7]), (1, [8]), (0, [9])] (by kernel_rfl) (by kernel_rfl) (over_of (ext_drew (ext_refl w4))) ?_
  simp only [pieces, pickL, List.map_cons, List.map_nil, List.getD_cons_zero, List.getD_cons_succ]
  refine mix_reads ?_
  repeat (go_big_quiet_step (fail))
  refine wpQuiet_nil (mix_acts ?_)
  have HX0 := Lib.hid (ext_drew (ext_refl w4))
  go_wp2_with (go_at_call 29; refine (hguard_PT p 0 1 at_ sh hsh2 8 _).mono ?_; rintro e w5 ⟨v1, F1, rfl, hx, hp1, hbn1, hsub1⟩; refine Hid.out ?_)
  refine Lib.hid ?_
  have HX5 := Lib.hid (ext_trans HX0.out hx)
  have HOF1 := Lib.hid (fun j (hj : F1 j) => (hsub1 j hj).elim (fun h => h.elim) fun h => (.inr (Nat.le_trans (HI4.out.ext HX0.out).m.top h) : j < lo ∨ hi ≤ j))
  have HP1 := Lib.hid hp1
  have HBN1 := Lib.hid hbn1
  clear hx hp1 hbn1 hsub1
  go_wp2
  refine mixQ_mk (over_of HX5.out) (mix_acts ?_)
  go_wp2_with (go_at_call 29; refine (hguard_PT p 1 2 at_ sh hsh2 8 _).mono ?_; rintro e w6 ⟨v2, F2, rfl, hx, hp2, hbn2, hsub2⟩; refine Hid.out ?_)
  refine Lib.hid ?_
  have HX6 := Lib.hid (ext_trans HX5.out hx)
  have HOF2 := Lib.hid (fun j (hj : F2 j) => (hsub2 j hj).elim (fun h => h.elim) fun h => (.inr (Nat.le_trans (HI4.out.ext HX5.out).m.top h) : j < lo ∨ hi ≤ j))
  replace HP1 := Lib.hid (HP1.out.agr (Agr.of_ext hx HBN1.out))
  replace HBN1 := Lib.hid (HBN1.out.ext hx.size)
  have HP2 := Lib.hid hp2
  have HBN2 := Lib.hid hbn2
  clear hx hp2 hbn2 hsub2
  obtain ⟨y0, a0, f0, rfl, hf0⟩ := shU HP1.out
  obtain ⟨y1, a1, f1, rfl, hf1⟩ := shU HP2.out
  have HFN0 := Lib.hid hf0
  have HFN1 := Lib.hid hf1
  clear hf0 hf1
  go_wp2
  refine mixQ_mk (over_of HX6.out) (mix_acts ?_)
  go_wp2
  have HXA := Lib.hid (ext_alloc (.cells #[.int .u64 y0, .int .i64 a0.op, .int .i64 a0.at_, .int .u64 (U a0.a), .int .u64 (U a0.b), f0, .pointer none, .int .u64 y1, .int .i64 a1.op, .int .i64 a1.at_, .int .u64 (U a1.a), .int .u64 (U a1.b), f1, .pointer none] 79) HX6.out)
  refine mixQ_mk (over_of HXA.out) (mix_reads ?_)
  repeat (go_big_quiet_step (fail))
  refine wpQuiet_nil (mix_end ?_)
  have HK : Hid (Blk w6.heap.size (.cells #[.int .u64 y0, .int .i64 a0.op, .int .i64 a0.at_, .int .u64 (U a0.a), .int .u64 (U a0.b), f0, .pointer none, .int .u64 y1, .int .i64 a1.op, .int .i64 a1.at_, .int .u64 (U a1.a), .int .u64 (U a1.b), f1, .pointer none] 79) (w6.alloc (.cells #[.int .u64 y0, .int .i64 a0.op, .int .i64 a0.at_, .int .u64 (U a0.a), .int .u64 (U a0.b), f0, .pointer none, .int .u64 y1, .int .i64 a1.op, .int .i64 a1.at_, .int .u64 (U a1.a), .int .u64 (U a1.b), f1, .pointer none] 79))) := Lib.hid (heap_at w6 _ _ rfl)
  obtain ⟨bg, hbg⟩ : ∃ b, Hid (w6.heap.size = b) := ⟨_, Lib.hid rfl⟩
  have hmi := HI4.out.m.mIn
  have hbgh : hi ≤ bg := by have := (HI4.out.ext HX6.out).m.top; have := hbg.out; omega
  have HI := Lib.hid (HI4.out.ext HXA.out)
  have hof : ∀ F : Nat → Prop, Bnd F w6 → (∀ j, F j → j < lo ∨ hi ≤ j) → ∀ j, F j → (j < lo ∨ hi ≤ j) ∧ j ≠ bg := fun F hb h j hj => ⟨h j hj, fun e => by have := hb j hj; have := hbg.out; omega⟩
  have hxa := ext_alloc (.cells #[.int .u64 y0, .int .i64 a0.op, .int .i64 a0.at_, .int .u64 (U a0.a), .int .u64 (U a0.b), f0, .pointer none, .int .u64 y1, .int .i64 a1.op, .int .i64 a1.at_, .int .u64 (U a1.a), .int .u64 (U a1.b), f1, .pointer none] 79) (ext_refl w6)
  have HG0 : Hid (GOne p 0 1 at_ sh x2 lo hi bg 8 .ld F1 y0 a0 f0 M1 (w6.alloc (.cells #[.int .u64 y0, .int .i64 a0.op, .int .i64 a0.at_, .int .u64 (U a0.a), .int .u64 (U a0.b), f0, .pointer none, .int .u64 y1, .int .i64 a1.op, .int .i64 a1.at_, .int .u64 (U a1.a), .int .u64 (U a1.b), f1, .pointer none] 79))) := Lib.hid ⟨HP1.out.agr (Agr.of_ext hxa HBN1.out), HBN1.out.ext hxa.size, hof F1 HBN1.out HOF1.out, HFN0.out, trivial, trivial, fun _ => hzw.out _ (by have := hpt.out; omega), by show 3 + 1 ≤ 8; omega⟩
  have HG1 : Hid (GOne p 1 2 at_ sh x2 lo hi bg 8 .ld F2 y1 a1 f1 M1 (w6.alloc (.cells #[.int .u64 y0, .int .i64 a0.op, .int .i64 a0.at_, .int .u64 (U a0.a), .int .u64 (U a0.b), f0, .pointer none, .int .u64 y1, .int .i64 a1.op, .int .i64 a1.at_, .int .u64 (U a1.a), .int .u64 (U a1.b), f1, .pointer none] 79))) := Lib.hid ⟨HP2.out.agr (Agr.of_ext hxa HBN2.out), HBN2.out.ext hxa.size, hof F2 HBN2.out HOF2.out, HFN1.out, trivial, trivial, fun _ => hzw.out _ (by have := hpt.out; omega), by show 3 + 1 ≤ 8; omega⟩
  rw [hbg.out] at HK ⊢
  clear hof hxa HXA HX0 HX5 HX6 HP1 HP2 HBN1 HBN2 HOF1 HOF2 HFN0 HFN1 HI4 hzw hbg c0 c1 c2 c3 c4 c5 lt
  generalize w6.alloc (.cells #[.int .u64 y0, .int .i64 a0.op, .int .i64 a0.at_, .int .u64 (U a0.a), .int .u64 (U a0.b), f0, .pointer none, .int .u64 y1, .int .i64 a1.op, .int .i64 a1.at_, .int .u64 (U a1.a), .int .u64 (U a1.b), f1, .pointer none] 79) = W7 at HK HI HG0 HG1 ⊢
  go_wp2
  go_loopw [12] (fun vi wr => TwRel p at_ sh x2 lo hi L B bg w ps.length vi wr) (fun i _ => (ps.length + 8 - intOf i).toNat)
  case atStart => exact ⟨0, 8, 8, M1, .ld, .ld, F1, F2, y0, y1, a0, a1, f0, f1, rfl, Nat.zero_le _, HI.out, hxw.out, HK.out, HG0.out, HG1.out, by show 3 ≤ _; omega, by show 3 ≤ _; omega⟩
  case round =>
    clear HK HI HG0 HG1 hxw
    obtain ⟨i, N0, N1, M, g0, g1, F0, F1, y0, y1, a0, a1, f0, f1, rfl, him, hI, hW, hK, hG0, hG1, hm0, hm1⟩ := hrel
    have HR := Lib.hid hI
    have HK := Lib.hid hK
    have HG0 := Lib.hid hG0
    have HG1 := Lib.hid hG1
    have HWW := Lib.hid hW
    have e2 := Lib.hid (h64 i (by omega))
    have hF0 := Lib.hid hG0.bn
    have hF1 := Lib.hid hG1.bn
    have hbgl := HK.out.lt
    replace hm0 := Lib.hid hm0
    replace hm1 := Lib.hid hm1
    clear hI hW hK hG0 hG1
    by_cases hlt : i < ps.length + 8
    · have hlt' : (i : Int) < (ps.length : Int) + 8 := by omega
      by_cases hip : i < ps.length
      · have hip' : (i : Int) < ps.length := by omega
        obtain ⟨bb, ofs, rfl, hbl, hcell⟩ := (HXX.out.ext HR.out.ex).at hip
        have hbb : bb < lo := by
          obtain ⟨b2, o2, e2, hb2, _⟩ := HXX.out.at hip
          simp at e2
          omega
        cases hbi : bN ps i with
        | true =>
          rw [hbi] at hcell
          have HFB : ∀ j, F0 j → j < wr.heap.size := hF0.out
          have HOT := HG0
          have HQ0 := HG1
          clear HG0 HG1
          have d0 := cell_at (o := 0) HK.out rfl
          have d1 := cell_at (o := 1) HK.out rfl
          have d2 := cell_at (o := 2) HK.out rfl
          have d3 := cell_at (o := 3) HK.out rfl
          have d4 := cell_at (o := 4) HK.out rfl
          have d5 := cell_at (o := 5) HK.out rfl
          have d6 := cell_at (o := 6) HK.out rfl
          have d7 := cell_at (o := 7) HK.out rfl
          have d8 := cell_at (o := 8) HK.out rfl
          have d9 := cell_at (o := 9) HK.out rfl
          have d10 := cell_at (o := 10) HK.out rfl
          have d11 := cell_at (o := 11) HK.out rfl
          have d12 := cell_at (o := 12) HK.out rfl
          have d13 := cell_at (o := 13) HK.out rfl
          simp only [List.getElem_toArray, List.getElem_cons_zero, List.getElem_cons_succ] at d0 d1 d2 d3 d4 d5 d6 d7 d8 d9 d10 d11 d12 d13
          go_wp2
          refine wp_region_ways (fun x => ∃ s, x = off lo hi wr s) (by kernel_rfl) (off_of ((Fr.refl lo hi wr).drew)) ?_
          refine ways_reads [0, 1, 2, 3, 4, 5] (by kernel_rfl) ?_
          simp only [pickL, List.map_cons, List.map_nil, List.getD_cons_zero, List.getD_cons_succ]
          repeat (go_big_quiet_step (fail))
          refine wpQuiet_nil ?_
          have HZ := Lib.hid ((Fr.refl lo hi wr).drew)
          have HI := Lib.hid (HR.out.ext (ext_drew (ext_refl wr)))
          have HQ := Lib.hid (HQ0.out.ext (ext_drew (ext_refl wr)))
          have HQF := Lib.hid HQ0.out.bn
          replace HOT := Lib.hid (HOT.out.ext (ext_drew (ext_refl wr)))
          replace HK := Lib.hid (HK.out.ext (ext_drew (ext_refl wr)))
          have hsx : wr.heap.size ≤ wr.drew.heap.size := Nat.le_refl _
          have hwtop := HR.out.m.top
          clear HR HQ0 d0 d1 d2 d3 d4 d5 d6 d7 d8 d9 d10 d11 d12 d13
          generalize wr.drew = X at HZ HI HQ hsx HOT HK ⊢
          refine ways_fork 11 (by kernel_rfl) ?_ (ways_act 6 (by kernel_rfl) ?_)
          · simp only [pickL, List.map_cons, List.map_nil, List.getD_cons_zero, List.getD_cons_succ]
            go_wp2
            have hxa := ext_alloc (.cells #[.int .u64 0, .int .i64 0, .int .i64 0, .int .u64 0, .int .u64 0, .nilFunc, .pointer none] 79) (ext_refl X)
            replace HZ := Lib.hid (HZ.out.ext hxa)
            replace HI := Lib.hid (HI.out.ext hxa)
            replace HOT := Lib.hid (HOT.out.ext hxa)
            replace HK := Lib.hid (HK.out.ext hxa)
            replace HQ := Lib.hid (HQ.out.ext hxa)
            have hbx := Lib.hid (heap_at X (.cells #[.int .u64 0, .int .i64 0, .int .i64 0, .int .u64 0, .int .u64 0, .nilFunc, .pointer none] 79) X.heap.size rfl)
            have hlx : wr.heap.size ≤ X.heap.size := hsx
            replace hsx : wr.heap.size ≤ (X.alloc (.cells #[.int .u64 0, .int .i64 0, .int .i64 0, .int .u64 0, .int .u64 0, .nilFunc, .pointer none] 79)).heap.size := by simp; omega
            clear hxa
            refine mixQ_mk (off_of HZ.out) ?_
            generalize X.alloc (.cells #[.int .u64 0, .int .i64 0, .int .i64 0, .int .u64 0, .int .u64 0, .nilFunc, .pointer none] 79) = XA at HZ HI hbx hsx HOT HK HQ ⊢
            generalize X.heap.size = bx at hbx hlx ⊢
            refine ways_act 6 (by kernel_rfl) ?_
            simp only [pickL, List.map_cons, List.map_nil, List.getD_cons_zero, List.getD_cons_succ]
            go_wp2_with (go_at_call 21; refine (cap_int HI.out.m 0 1#64 (by omega) (by rw [HI.out.mg.n]; omega) (Lib.hid HI.out.mg.e)).mono ?_; rintro e XC ⟨rfl, hx⟩; refine Hid.out ?_)
            refine Lib.hid ?_
            replace HZ := Lib.hid (HZ.out.ext hx)
            replace HI := Lib.hid (HI.out.ext hx)
            replace HQ := Lib.hid (HQ.out.ext hx)
            replace HOT := Lib.hid (HOT.out.ext hx)
            replace HK := Lib.hid (HK.out.ext hx)
            replace hbx := Lib.hid ((hx.block _ (heap_lt hbx.out)).trans hbx.out)
            replace hsx := Nat.le_trans hsx hx.size
            clear hx
            go_wp2
            refine mixQ_mk (off_of HZ.out) ?_
            refine ways_act 7 (by kernel_rfl) ?_
            simp only [pickL, List.map_cons, List.map_nil, List.getD_cons_zero, List.getD_cons_succ]
            go_wp2_with (go_at_call 32; refine (step_GOne HP.out HQ.out HI.out.m HI.out.mg (by omega) (by have := hpt.out; omega) (by omega) (by omega) hat0 hat1 hat2.out HWW.out).mono ?_; rintro e XS ⟨v2, F2, M2, N2, g2, bb2, rfl, hp, hbn, hsub, hm, hf, hA, hB, hC⟩; refine Hid.out ?_)
            refine Lib.hid ?_
            have hp2 := Lib.hid hp
            have hbn2 := Lib.hid hbn
            have hof2 := Lib.hid (fun j (hj : F2 j) => (hsub j hj).elim (fun h => (HQ.out.of j h)) (fun h => (⟨.inr (Nat.le_trans HI.out.m.top h), fun e => by omega⟩ : (j < lo ∨ hi ≤ j) ∧ j ≠ bg)))
            have HBO : Hid (∀ j, F2 j → j < XS.heap.size) := Lib.hid hbn
            have hnb : Hid (¬ F2 bx) := Lib.hid (fun h => (hsub _ h).elim (fun h => by have := HQF.out _ h; omega) (fun h => by have := heap_lt hbx.out; omega))
            replace HZ := Lib.hid (HZ.out.trans hf)
            replace HOT := Lib.hid (HOT.out.fr hf (hA.2.2 _ (by have := hpt.out; omega) (by omega)))
            replace HK := Lib.hid (HK.out.fr hf hbgh)
            replace HI := Lib.hid (HI.out.ran hm hf hA.1 (by omega) hlo1)
            have HA := Lib.hid hA
            have HB2 := Lib.hid hB
            have HC := Lib.hid hC
            clear hA hB hC
            replace hbx := Lib.hid ((hf.block _ (heap_lt hbx.out) (.inr (Nat.le_trans hwtop hlx))).trans hbx.out)
            replace hsx := Nat.le_trans hsx hf.size
            obtain ⟨y2, a2, fn2, rfl, hfn2⟩ := shU hp
            have HFN2 := Lib.hid hfn2
            clear hf hm hp hbn hsub hfn2 HQ
            go_wp2
            refine mixQ_mk (off_of HZ.out) ?_
            refine ways_reads [8, 9, 10] (by kernel_rfl) ?_
            simp only [pickL, List.map_cons, List.map_nil, List.getD_cons_zero, List.getD_cons_succ]
            repeat (go_big_quiet_step (fail))
            refine wpQuiet_nil ?_
            refine ways_act 12 (by kernel_rfl) ?_
            simp only [pickL, List.map_cons, List.map_nil, List.getD_cons_zero, List.getD_cons_succ]
            obtain ⟨k0, k1, k2, k3, k4, k5, k6, kz, kl⟩ := sev_of hbx.out
            have hB := put7_block (.int .u64 y2) (.int .i64 a2.op) (.int .i64 a2.at_) (.int .u64 (U a2.a)) (.int .u64 (U a2.b)) fn2 (.pointer none) hbx.out
            have hP := hp2.out.agr (Agr.of_put7 (b := bx) (.int .u64 y2) (.int .i64 a2.op) (.int .i64 a2.at_) (.int .u64 (U a2.a)) (.int .u64 (U a2.b)) fn2 (.pointer none) hnb.out)
            have hZZ := put7_frNew (b := bx) (.int .u64 y2) (.int .i64 a2.op) (.int .i64 a2.at_) (.int .u64 (U a2.a)) (.int .u64 (U a2.b)) fn2 (.pointer none) HZ.out hlx
            have hII := HI.out.put7 (b := bx) (.int .u64 y2) (.int .i64 a2.op) (.int .i64 a2.at_) (.int .u64 (U a2.a)) (.int .u64 (U a2.b)) fn2 (.pointer none) (Nat.le_trans hwtop hlx) (by omega) (by omega)
            have hSS : (put7 bx (.int .u64 y2) (.int .i64 a2.op) (.int .i64 a2.at_) (.int .u64 (U a2.a)) (.int .u64 (U a2.b)) fn2 (.pointer none) XS).heap.size = XS.heap.size := put7_size (.int .u64 y2) (.int .i64 a2.op) (.int .i64 a2.at_) (.int .u64 (U a2.a)) (.int .u64 (U a2.b)) fn2 (.pointer none)
            have hO0 := HOT.out.put7 (b := bx) (.int .u64 y2) (.int .i64 a2.op) (.int .i64 a2.at_) (.int .u64 (U a2.a)) (.int .u64 (U a2.b)) fn2 (.pointer none) (fun h => by have := HFB _ h; omega)
            have hO1 := HK.out.put7 (b' := bx) (.int .u64 y2) (.int .i64 a2.op) (.int .i64 a2.at_) (.int .u64 (U a2.a)) (.int .u64 (U a2.b)) fn2 (.pointer none) (by omega)
            rw [put7] at hB hP hZZ hII hSS hO0 hO1
            have HY := Lib.hid (And.intro hB (And.intro hP (And.intro hZZ (And.intro hII (And.intro hO0 (And.intro hO1 (hSS)))))))
            have HSW := Lib.hid (And.intro hbn2.out hsx)
            have hsf := store_fn HFN2.out
            clear hB hP hZZ hII hO0 hO1 hSS hp2 HZ HI hbx hbn2 HOT HK
            go_wp2
            obtain ⟨hB, hP, hZZ, hII, hO0, hO1, hSS⟩ := HY.out
            obtain ⟨hbn2, hsx2⟩ := HSW.out
            rw [← hSS] at hsx2
            have hbn3 : Bnd F2 _ := hbn2.ext (Nat.le_of_eq hSS.symm)
            clear HY HSW k0 k1 k2 k3 k4 k5 k6 kz kl hSS hsf
            generalize (World.setCell _ (⟨bx, 6, none⟩ : Addr) _) = Y at hB hP hZZ hII hsx2 hbn3 hO0 hO1 ⊢
            refine mixQ_mk (off_of hZZ) ?_
            have HB := Lib.hid hB
            have HPT := Lib.hid hP
            have HZZ := Lib.hid hZZ
            have HI := Lib.hid hII
            have HBN := Lib.hid hbn3
            have HOF := hof2
            have HOT := Lib.hid hO0
            have HK := Lib.hid hO1
            clear hB hP hZZ hII hbn3 hof2 hO0 hO1
            refine ways_reads [13] (by kernel_rfl) ?_
            simp only [pickL, List.map_cons, List.map_nil, List.getD_cons_zero, List.getD_cons_succ]
            repeat (go_big_quiet_step (fail))
            refine wpQuiet_nil ?_
            refine ways_end (by kernel_rfl) ?_
            obtain ⟨k0, k1, k2, k3, k4, k5, k6, kz, kl⟩ := sev_of HB.out
            have d0 := cell_at (o := 0) HK.out rfl
            have d1 := cell_at (o := 1) HK.out rfl
            have d2 := cell_at (o := 2) HK.out rfl
            have d3 := cell_at (o := 3) HK.out rfl
            have d4 := cell_at (o := 4) HK.out rfl
            have d5 := cell_at (o := 5) HK.out rfl
            have d6 := cell_at (o := 6) HK.out rfl
            have d7 := cell_at (o := 7) HK.out rfl
            have d8 := cell_at (o := 8) HK.out rfl
            have d9 := cell_at (o := 9) HK.out rfl
            have d10 := cell_at (o := 10) HK.out rfl
            have d11 := cell_at (o := 11) HK.out rfl
            have d12 := cell_at (o := 12) HK.out rfl
            have d13 := cell_at (o := 13) HK.out rfl
            simp only [List.getElem_toArray, List.getElem_cons_zero, List.getElem_cons_succ] at d0 d1 d2 d3 d4 d5 d6 d7 d8 d9 d10 d11 d12 d13
            have dz := fun o => free_at (o := o) HK.out
            have dl := HK.out.lt
            have hsf := store_fn HFN2.out
            have hQ9 := (GOne.mk HPT.out HBN.out HOF.out HFN2.out HB2.out.1 HB2.out.2.1 HB2.out.2.2.1 HB2.out.2.2.2 : GOne p 1 2 at_ sh x2 lo hi bg N2 g2 F2 y2 a2 fn2 M2 Y).put7o (o := 7) (.int .u64 y2) (.int .i64 a2.op) (.int .i64 a2.at_) (.int .u64 (U a2.a)) (.int .u64 (U a2.b)) fn2 (.pointer none)
            have hO9 := HOT.out.put7o (o := 7) (.int .u64 y2) (.int .i64 a2.op) (.int .i64 a2.at_) (.int .u64 (U a2.a)) (.int .u64 (U a2.b)) fn2 (.pointer none)
            have hI9 := HI.out.put7o (b := bg) (o := 7) (.int .u64 y2) (.int .i64 a2.op) (.int .i64 a2.at_) (.int .u64 (U a2.a)) (.int .u64 (U a2.b)) fn2 (.pointer none) hbgh (by omega) (by omega)
            have hK9 : Blk bg (.cells #[.int .u64 y0, .int .i64 a0.op, .int .i64 a0.at_, .int .u64 (U a0.a), .int .u64 (U a0.b), f0, .pointer none, .int .u64 y2, .int .i64 a2.op, .int .i64 a2.at_, .int .u64 (U a2.a), .int .u64 (U a2.b), fn2, .pointer none] 79) (put7o bg 7 (.int .u64 y2) (.int .i64 a2.op) (.int .i64 a2.at_) (.int .u64 (U a2.a)) (.int .u64 (U a2.b)) fn2 (.pointer none) Y) := put14b (.int .u64 y2) (.int .i64 a2.op) (.int .i64 a2.at_) (.int .u64 (U a2.a)) (.int .u64 (U a2.b)) fn2 (.pointer none) HK.out
            simp only [put7o, Nat.reduceAdd] at hQ9 hO9 hI9 hK9
            have HY := Lib.hid (And.intro hQ9 (And.intro hO9 (And.intro hI9 hK9)))
            clear hQ9 hO9 hI9 hK9 HPT HBN HOF HI HOT HK HZZ
            go_wp2
            obtain ⟨hQ9, hO9, hI9, hK9⟩ := HY.out
            exact ⟨⟨i + 1, N0, N2, M2, g0, g2, F0, F2, y0, y2, a0, a2, f0, fn2, by first | exact congrArg _ e2.out | rfl, by omega, hI9, HA.out.2.1, hK9, hO9, hQ9, by have := hm0.out; have := hm1.out; have := HC.out; omega, by have := hm0.out; have := hm1.out; have := HC.out; omega⟩, by simp [intOf]; omega⟩
          · simp only [pickL, List.map_cons, List.map_nil, List.getD_cons_zero, List.getD_cons_succ]
            go_wp2_with (go_at_call 21; refine (cap_int HI.out.m 0 1#64 (by omega) (by rw [HI.out.mg.n]; omega) (Lib.hid HI.out.mg.e)).mono ?_; rintro e XC ⟨rfl, hx⟩; refine Hid.out ?_)
            refine Lib.hid ?_
            replace HZ := Lib.hid (HZ.out.ext hx)
            replace HI := Lib.hid (HI.out.ext hx)
            replace HQ := Lib.hid (HQ.out.ext hx)
            replace HOT := Lib.hid (HOT.out.ext hx)
            replace HK := Lib.hid (HK.out.ext hx)
            replace hsx := Nat.le_trans hsx hx.size
            clear hx
            go_wp2
            refine mixQ_mk (off_of HZ.out) ?_
            refine ways_fork 11 (by kernel_rfl) ?_ (ways_act 7 (by kernel_rfl) ?_)
            · simp only [pickL, List.map_cons, List.map_nil, List.getD_cons_zero, List.getD_cons_succ]
              go_wp2
              have hxa := ext_alloc (.cells #[.int .u64 0, .int .i64 0, .int .i64 0, .int .u64 0, .int .u64 0, .nilFunc, .pointer none] 79) (ext_refl XC)
              replace HZ := Lib.hid (HZ.out.ext hxa)
              replace HI := Lib.hid (HI.out.ext hxa)
              replace HOT := Lib.hid (HOT.out.ext hxa)
              replace HK := Lib.hid (HK.out.ext hxa)
              replace HQ := Lib.hid (HQ.out.ext hxa)
              have hbx := Lib.hid (heap_at XC (.cells #[.int .u64 0, .int .i64 0, .int .i64 0, .int .u64 0, .int .u64 0, .nilFunc, .pointer none] 79) XC.heap.size rfl)
              have hlx : wr.heap.size ≤ XC.heap.size := hsx
              replace hsx : wr.heap.size ≤ (XC.alloc (.cells #[.int .u64 0, .int .i64 0, .int .i64 0, .int .u64 0, .int .u64 0, .nilFunc, .pointer none] 79)).heap.size := by simp; omega
              clear hxa
              refine mixQ_mk (off_of HZ.out) ?_
              generalize XC.alloc (.cells #[.int .u64 0, .int .i64 0, .int .i64 0, .int .u64 0, .int .u64 0, .nilFunc, .pointer none] 79) = XA at HZ HI hbx hsx HOT HK HQ ⊢
              generalize XC.heap.size = bx at hbx hlx ⊢
              refine ways_act 7 (by kernel_rfl) ?_
              simp only [pickL, List.map_cons, List.map_nil, List.getD_cons_zero, List.getD_cons_succ]
              go_wp2_with (go_at_call 32; refine (step_GOne HP.out HQ.out HI.out.m HI.out.mg (by omega) (by have := hpt.out; omega) (by omega) (by omega) hat0 hat1 hat2.out HWW.out).mono ?_; rintro e XS ⟨v2, F2, M2, N2, g2, bb2, rfl, hp, hbn, hsub, hm, hf, hA, hB, hC⟩; refine Hid.out ?_)
              refine Lib.hid ?_
              have hp2 := Lib.hid hp
              have hbn2 := Lib.hid hbn
              have hof2 := Lib.hid (fun j (hj : F2 j) => (hsub j hj).elim (fun h => (HQ.out.of j h)) (fun h => (⟨.inr (Nat.le_trans HI.out.m.top h), fun e => by omega⟩ : (j < lo ∨ hi ≤ j) ∧ j ≠ bg)))
              have HBO : Hid (∀ j, F2 j → j < XS.heap.size) := Lib.hid hbn
              have hnb : Hid (¬ F2 bx) := Lib.hid (fun h => (hsub _ h).elim (fun h => by have := HQF.out _ h; omega) (fun h => by have := heap_lt hbx.out; omega))
              replace HZ := Lib.hid (HZ.out.trans hf)
              replace HOT := Lib.hid (HOT.out.fr hf (hA.2.2 _ (by have := hpt.out; omega) (by omega)))
              replace HK := Lib.hid (HK.out.fr hf hbgh)
              replace HI := Lib.hid (HI.out.ran hm hf hA.1 (by omega) hlo1)
              have HA := Lib.hid hA
              have HB2 := Lib.hid hB
              have HC := Lib.hid hC
              clear hA hB hC
              replace hbx := Lib.hid ((hf.block _ (heap_lt hbx.out) (.inr (Nat.le_trans hwtop hlx))).trans hbx.out)
              replace hsx := Nat.le_trans hsx hf.size
              obtain ⟨y2, a2, fn2, rfl, hfn2⟩ := shU hp
              have HFN2 := Lib.hid hfn2
              clear hf hm hp hbn hsub hfn2 HQ
              go_wp2
              refine mixQ_mk (off_of HZ.out) ?_
              refine ways_reads [8, 9, 10] (by kernel_rfl) ?_
              simp only [pickL, List.map_cons, List.map_nil, List.getD_cons_zero, List.getD_cons_succ]
              repeat (go_big_quiet_step (fail))
              refine wpQuiet_nil ?_
              refine ways_act 12 (by kernel_rfl) ?_
              simp only [pickL, List.map_cons, List.map_nil, List.getD_cons_zero, List.getD_cons_succ]
              obtain ⟨k0, k1, k2, k3, k4, k5, k6, kz, kl⟩ := sev_of hbx.out
              have hB := put7_block (.int .u64 y2) (.int .i64 a2.op) (.int .i64 a2.at_) (.int .u64 (U a2.a)) (.int .u64 (U a2.b)) fn2 (.pointer none) hbx.out
              have hP := hp2.out.agr (Agr.of_put7 (b := bx) (.int .u64 y2) (.int .i64 a2.op) (.int .i64 a2.at_) (.int .u64 (U a2.a)) (.int .u64 (U a2.b)) fn2 (.pointer none) hnb.out)
              have hZZ := put7_frNew (b := bx) (.int .u64 y2) (.int .i64 a2.op) (.int .i64 a2.at_) (.int .u64 (U a2.a)) (.int .u64 (U a2.b)) fn2 (.pointer none) HZ.out hlx
              have hII := HI.out.put7 (b := bx) (.int .u64 y2) (.int .i64 a2.op) (.int .i64 a2.at_) (.int .u64 (U a2.a)) (.int .u64 (U a2.b)) fn2 (.pointer none) (Nat.le_trans hwtop hlx) (by omega) (by omega)
              have hSS : (put7 bx (.int .u64 y2) (.int .i64 a2.op) (.int .i64 a2.at_) (.int .u64 (U a2.a)) (.int .u64 (U a2.b)) fn2 (.pointer none) XS).heap.size = XS.heap.size := put7_size (.int .u64 y2) (.int .i64 a2.op) (.int .i64 a2.at_) (.int .u64 (U a2.a)) (.int .u64 (U a2.b)) fn2 (.pointer none)
              have hO0 := HOT.out.put7 (b := bx) (.int .u64 y2) (.int .i64 a2.op) (.int .i64 a2.at_) (.int .u64 (U a2.a)) (.int .u64 (U a2.b)) fn2 (.pointer none) (fun h => by have := HFB _ h; omega)
              have hO1 := HK.out.put7 (b' := bx) (.int .u64 y2) (.int .i64 a2.op) (.int .i64 a2.at_) (.int .u64 (U a2.a)) (.int .u64 (U a2.b)) fn2 (.pointer none) (by omega)
              rw [put7] at hB hP hZZ hII hSS hO0 hO1
              have HY := Lib.hid (And.intro hB (And.intro hP (And.intro hZZ (And.intro hII (And.intro hO0 (And.intro hO1 (hSS)))))))
              have HSW := Lib.hid (And.intro hbn2.out hsx)
              have hsf := store_fn HFN2.out
              clear hB hP hZZ hII hO0 hO1 hSS hp2 HZ HI hbx hbn2 HOT HK
              go_wp2
              obtain ⟨hB, hP, hZZ, hII, hO0, hO1, hSS⟩ := HY.out
              obtain ⟨hbn2, hsx2⟩ := HSW.out
              rw [← hSS] at hsx2
              have hbn3 : Bnd F2 _ := hbn2.ext (Nat.le_of_eq hSS.symm)
              clear HY HSW k0 k1 k2 k3 k4 k5 k6 kz kl hSS hsf
              generalize (World.setCell _ (⟨bx, 6, none⟩ : Addr) _) = Y at hB hP hZZ hII hsx2 hbn3 hO0 hO1 ⊢
              refine mixQ_mk (off_of hZZ) ?_
              have HB := Lib.hid hB
              have HPT := Lib.hid hP
              have HZZ := Lib.hid hZZ
              have HI := Lib.hid hII
              have HBN := Lib.hid hbn3
              have HOF := hof2
              have HOT := Lib.hid hO0
              have HK := Lib.hid hO1
              clear hB hP hZZ hII hbn3 hof2 hO0 hO1
              refine ways_reads [13] (by kernel_rfl) ?_
              simp only [pickL, List.map_cons, List.map_nil, List.getD_cons_zero, List.getD_cons_succ]
              repeat (go_big_quiet_step (fail))
              refine wpQuiet_nil ?_
              refine ways_end (by kernel_rfl) ?_
              obtain ⟨k0, k1, k2, k3, k4, k5, k6, kz, kl⟩ := sev_of HB.out
              have d0 := cell_at (o := 0) HK.out rfl
              have d1 := cell_at (o := 1) HK.out rfl
              have d2 := cell_at (o := 2) HK.out rfl
              have d3 := cell_at (o := 3) HK.out rfl
              have d4 := cell_at (o := 4) HK.out rfl
              have d5 := cell_at (o := 5) HK.out rfl
              have d6 := cell_at (o := 6) HK.out rfl
              have d7 := cell_at (o := 7) HK.out rfl
              have d8 := cell_at (o := 8) HK.out rfl
              have d9 := cell_at (o := 9) HK.out rfl
              have d10 := cell_at (o := 10) HK.out rfl
              have d11 := cell_at (o := 11) HK.out rfl
              have d12 := cell_at (o := 12) HK.out rfl
              have d13 := cell_at (o := 13) HK.out rfl
              simp only [List.getElem_toArray, List.getElem_cons_zero, List.getElem_cons_succ] at d0 d1 d2 d3 d4 d5 d6 d7 d8 d9 d10 d11 d12 d13
              have dz := fun o => free_at (o := o) HK.out
              have dl := HK.out.lt
              have hsf := store_fn HFN2.out
              have hQ9 := (GOne.mk HPT.out HBN.out HOF.out HFN2.out HB2.out.1 HB2.out.2.1 HB2.out.2.2.1 HB2.out.2.2.2 : GOne p 1 2 at_ sh x2 lo hi bg N2 g2 F2 y2 a2 fn2 M2 Y).put7o (o := 7) (.int .u64 y2) (.int .i64 a2.op) (.int .i64 a2.at_) (.int .u64 (U a2.a)) (.int .u64 (U a2.b)) fn2 (.pointer none)
              have hO9 := HOT.out.put7o (o := 7) (.int .u64 y2) (.int .i64 a2.op) (.int .i64 a2.at_) (.int .u64 (U a2.a)) (.int .u64 (U a2.b)) fn2 (.pointer none)
              have hI9 := HI.out.put7o (b := bg) (o := 7) (.int .u64 y2) (.int .i64 a2.op) (.int .i64 a2.at_) (.int .u64 (U a2.a)) (.int .u64 (U a2.b)) fn2 (.pointer none) hbgh (by omega) (by omega)
              have hK9 : Blk bg (.cells #[.int .u64 y0, .int .i64 a0.op, .int .i64 a0.at_, .int .u64 (U a0.a), .int .u64 (U a0.b), f0, .pointer none, .int .u64 y2, .int .i64 a2.op, .int .i64 a2.at_, .int .u64 (U a2.a), .int .u64 (U a2.b), fn2, .pointer none] 79) (put7o bg 7 (.int .u64 y2) (.int .i64 a2.op) (.int .i64 a2.at_) (.int .u64 (U a2.a)) (.int .u64 (U a2.b)) fn2 (.pointer none) Y) := put14b (.int .u64 y2) (.int .i64 a2.op) (.int .i64 a2.at_) (.int .u64 (U a2.a)) (.int .u64 (U a2.b)) fn2 (.pointer none) HK.out
              simp only [put7o, Nat.reduceAdd] at hQ9 hO9 hI9 hK9
              have HY := Lib.hid (And.intro hQ9 (And.intro hO9 (And.intro hI9 hK9)))
              clear hQ9 hO9 hI9 hK9 HPT HBN HOF HI HOT HK HZZ
              go_wp2
              obtain ⟨hQ9, hO9, hI9, hK9⟩ := HY.out
              exact ⟨⟨i + 1, N0, N2, M2, g0, g2, F0, F2, y0, y2, a0, a2, f0, fn2, by first | exact congrArg _ e2.out | rfl, by omega, hI9, HA.out.2.1, hK9, hO9, hQ9, by have := hm0.out; have := hm1.out; have := HC.out; omega, by have := hm0.out; have := hm1.out; have := HC.out; omega⟩, by simp [intOf]; omega⟩
            · simp only [pickL, List.map_cons, List.map_nil, List.getD_cons_zero, List.getD_cons_succ]
              go_wp2_with (go_at_call 32; refine (step_GOne HP.out HQ.out HI.out.m HI.out.mg (by omega) (by have := hpt.out; omega) (by omega) (by omega) hat0 hat1 hat2.out HWW.out).mono ?_; rintro e XS ⟨v2, F2, M2, N2, g2, bb2, rfl, hp, hbn, hsub, hm, hf, hA, hB, hC⟩; refine Hid.out ?_)
              refine Lib.hid ?_
              have hp2 := Lib.hid hp
              have hbn2 := Lib.hid hbn
              have hof2 := Lib.hid (fun j (hj : F2 j) => (hsub j hj).elim (fun h => (HQ.out.of j h)) (fun h => (⟨.inr (Nat.le_trans HI.out.m.top h), fun e => by omega⟩ : (j < lo ∨ hi ≤ j) ∧ j ≠ bg)))
              have HBO : Hid (∀ j, F2 j → j < XS.heap.size) := Lib.hid hbn
              replace HZ := Lib.hid (HZ.out.trans hf)
              replace HOT := Lib.hid (HOT.out.fr hf (hA.2.2 _ (by have := hpt.out; omega) (by omega)))
              replace HK := Lib.hid (HK.out.fr hf hbgh)
              replace HI := Lib.hid (HI.out.ran hm hf hA.1 (by omega) hlo1)
              have HA := Lib.hid hA
              have HB2 := Lib.hid hB
              have HC := Lib.hid hC
              clear hA hB hC
              replace hsx := Nat.le_trans hsx hf.size
              obtain ⟨y2, a2, fn2, rfl, hfn2⟩ := shU hp
              have HFN2 := Lib.hid hfn2
              clear hf hm hp hbn hsub hfn2 HQ
              go_wp2
              refine mixQ_mk (off_of HZ.out) ?_
              refine ways_reads [8, 9, 10] (by kernel_rfl) ?_
              simp only [pickL, List.map_cons, List.map_nil, List.getD_cons_zero, List.getD_cons_succ]
              repeat (go_big_quiet_step (fail))
              refine wpQuiet_nil ?_
              refine ways_act 11 (by kernel_rfl) ?_
              simp only [pickL, List.map_cons, List.map_nil, List.getD_cons_zero, List.getD_cons_succ]
              go_wp2
              have hxa := ext_alloc (.cells #[.int .u64 0, .int .i64 0, .int .i64 0, .int .u64 0, .int .u64 0, .nilFunc, .pointer none] 79) (ext_refl XS)
              replace HZ := Lib.hid (HZ.out.ext hxa)
              replace HI := Lib.hid (HI.out.ext hxa)
              replace HOT := Lib.hid (HOT.out.ext hxa)
              replace HK := Lib.hid (HK.out.ext hxa)
              replace hp2 := Lib.hid (hp2.out.agr (Agr.of_ext hxa hbn2.out))
              replace hbn2 := Lib.hid (hbn2.out.ext hxa.size)
              have hbx := Lib.hid (heap_at XS (.cells #[.int .u64 0, .int .i64 0, .int .i64 0, .int .u64 0, .int .u64 0, .nilFunc, .pointer none] 79) XS.heap.size rfl)
              have hlx : wr.heap.size ≤ XS.heap.size := hsx
              replace hsx : wr.heap.size ≤ (XS.alloc (.cells #[.int .u64 0, .int .i64 0, .int .i64 0, .int .u64 0, .int .u64 0, .nilFunc, .pointer none] 79)).heap.size := by simp; omega
              have hnb : Hid (¬ F2 XS.heap.size) := Lib.hid (fun h => by have := HBO.out _ h; omega)
              clear hxa
              refine mixQ_mk (off_of HZ.out) ?_
              generalize XS.alloc (.cells #[.int .u64 0, .int .i64 0, .int .i64 0, .int .u64 0, .int .u64 0, .nilFunc, .pointer none] 79) = XA at HZ HI hbx hsx HOT HK hp2 hbn2 ⊢
              generalize XS.heap.size = bx at hbx hlx hnb ⊢
              refine ways_act 12 (by kernel_rfl) ?_
              simp only [pickL, List.map_cons, List.map_nil, List.getD_cons_zero, List.getD_cons_succ]
              obtain ⟨k0, k1, k2, k3, k4, k5, k6, kz, kl⟩ := sev_of hbx.out
              have hB := put7_block (.int .u64 y2) (.int .i64 a2.op) (.int .i64 a2.at_) (.int .u64 (U a2.a)) (.int .u64 (U a2.b)) fn2 (.pointer none) hbx.out
              have hP := hp2.out.agr (Agr.of_put7 (b := bx) (.int .u64 y2) (.int .i64 a2.op) (.int .i64 a2.at_) (.int .u64 (U a2.a)) (.int .u64 (U a2.b)) fn2 (.pointer none) hnb.out)
              have hZZ := put7_frNew (b := bx) (.int .u64 y2) (.int .i64 a2.op) (.int .i64 a2.at_) (.int .u64 (U a2.a)) (.int .u64 (U a2.b)) fn2 (.pointer none) HZ.out hlx
              have hII := HI.out.put7 (b := bx) (.int .u64 y2) (.int .i64 a2.op) (.int .i64 a2.at_) (.int .u64 (U a2.a)) (.int .u64 (U a2.b)) fn2 (.pointer none) (Nat.le_trans hwtop hlx) (by omega) (by omega)
              have hSS : (put7 bx (.int .u64 y2) (.int .i64 a2.op) (.int .i64 a2.at_) (.int .u64 (U a2.a)) (.int .u64 (U a2.b)) fn2 (.pointer none) XA).heap.size = XA.heap.size := put7_size (.int .u64 y2) (.int .i64 a2.op) (.int .i64 a2.at_) (.int .u64 (U a2.a)) (.int .u64 (U a2.b)) fn2 (.pointer none)
              have hO0 := HOT.out.put7 (b := bx) (.int .u64 y2) (.int .i64 a2.op) (.int .i64 a2.at_) (.int .u64 (U a2.a)) (.int .u64 (U a2.b)) fn2 (.pointer none) (fun h => by have := HFB _ h; omega)
              have hO1 := HK.out.put7 (b' := bx) (.int .u64 y2) (.int .i64 a2.op) (.int .i64 a2.at_) (.int .u64 (U a2.a)) (.int .u64 (U a2.b)) fn2 (.pointer none) (by omega)
              rw [put7] at hB hP hZZ hII hSS hO0 hO1
              have HY := Lib.hid (And.intro hB (And.intro hP (And.intro hZZ (And.intro hII (And.intro hO0 (And.intro hO1 (hSS)))))))
              have HSW := Lib.hid (And.intro hbn2.out hsx)
              have hsf := store_fn HFN2.out
              clear hB hP hZZ hII hO0 hO1 hSS hp2 HZ HI hbx hbn2 HOT HK
              go_wp2
              obtain ⟨hB, hP, hZZ, hII, hO0, hO1, hSS⟩ := HY.out
              obtain ⟨hbn2, hsx2⟩ := HSW.out
              rw [← hSS] at hsx2
              have hbn3 : Bnd F2 _ := hbn2.ext (Nat.le_of_eq hSS.symm)
              clear HY HSW k0 k1 k2 k3 k4 k5 k6 kz kl hSS hsf
              generalize (World.setCell _ (⟨bx, 6, none⟩ : Addr) _) = Y at hB hP hZZ hII hsx2 hbn3 hO0 hO1 ⊢
              refine mixQ_mk (off_of hZZ) ?_
              have HB := Lib.hid hB
              have HPT := Lib.hid hP
              have HZZ := Lib.hid hZZ
              have HI := Lib.hid hII
              have HBN := Lib.hid hbn3
              have HOF := hof2
              have HOT := Lib.hid hO0
              have HK := Lib.hid hO1
              clear hB hP hZZ hII hbn3 hof2 hO0 hO1
              refine ways_reads [13] (by kernel_rfl) ?_
              simp only [pickL, List.map_cons, List.map_nil, List.getD_cons_zero, List.getD_cons_succ]
              repeat (go_big_quiet_step (fail))
              refine wpQuiet_nil ?_
              refine ways_end (by kernel_rfl) ?_
              obtain ⟨k0, k1, k2, k3, k4, k5, k6, kz, kl⟩ := sev_of HB.out
              have d0 := cell_at (o := 0) HK.out rfl
              have d1 := cell_at (o := 1) HK.out rfl
              have d2 := cell_at (o := 2) HK.out rfl
              have d3 := cell_at (o := 3) HK.out rfl
              have d4 := cell_at (o := 4) HK.out rfl
              have d5 := cell_at (o := 5) HK.out rfl
              have d6 := cell_at (o := 6) HK.out rfl
              have d7 := cell_at (o := 7) HK.out rfl
              have d8 := cell_at (o := 8) HK.out rfl
              have d9 := cell_at (o := 9) HK.out rfl
              have d10 := cell_at (o := 10) HK.out rfl
              have d11 := cell_at (o := 11) HK.out rfl
              have d12 := cell_at (o := 12) HK.out rfl
              have d13 := cell_at (o := 13) HK.out rfl
              simp only [List.getElem_toArray, List.getElem_cons_zero, List.getElem_cons_succ] at d0 d1 d2 d3 d4 d5 d6 d7 d8 d9 d10 d11 d12 d13
              have dz := fun o => free_at (o := o) HK.out
              have dl := HK.out.lt
              have hsf := store_fn HFN2.out
              have hQ9 := (GOne.mk HPT.out HBN.out HOF.out HFN2.out HB2.out.1 HB2.out.2.1 HB2.out.2.2.1 HB2.out.2.2.2 : GOne p 1 2 at_ sh x2 lo hi bg N2 g2 F2 y2 a2 fn2 M2 Y).put7o (o := 7) (.int .u64 y2) (.int .i64 a2.op) (.int .i64 a2.at_) (.int .u64 (U a2.a)) (.int .u64 (U a2.b)) fn2 (.pointer none)
              have hO9 := HOT.out.put7o (o := 7) (.int .u64 y2) (.int .i64 a2.op) (.int .i64 a2.at_) (.int .u64 (U a2.a)) (.int .u64 (U a2.b)) fn2 (.pointer none)
              have hI9 := HI.out.put7o (b := bg) (o := 7) (.int .u64 y2) (.int .i64 a2.op) (.int .i64 a2.at_) (.int .u64 (U a2.a)) (.int .u64 (U a2.b)) fn2 (.pointer none) hbgh (by omega) (by omega)
              have hK9 : Blk bg (.cells #[.int .u64 y0, .int .i64 a0.op, .int .i64 a0.at_, .int .u64 (U a0.a), .int .u64 (U a0.b), f0, .pointer none, .int .u64 y2, .int .i64 a2.op, .int .i64 a2.at_, .int .u64 (U a2.a), .int .u64 (U a2.b), fn2, .pointer none] 79) (put7o bg 7 (.int .u64 y2) (.int .i64 a2.op) (.int .i64 a2.at_) (.int .u64 (U a2.a)) (.int .u64 (U a2.b)) fn2 (.pointer none) Y) := put14b (.int .u64 y2) (.int .i64 a2.op) (.int .i64 a2.at_) (.int .u64 (U a2.a)) (.int .u64 (U a2.b)) fn2 (.pointer none) HK.out
              simp only [put7o, Nat.reduceAdd] at hQ9 hO9 hI9 hK9
              have HY := Lib.hid (And.intro hQ9 (And.intro hO9 (And.intro hI9 hK9)))
              clear hQ9 hO9 hI9 hK9 HPT HBN HOF HI HOT HK HZZ
              go_wp2
              obtain ⟨hQ9, hO9, hI9, hK9⟩ := HY.out
              exact ⟨⟨i + 1, N0, N2, M2, g0, g2, F0, F2, y0, y2, a0, a2, f0, fn2, by first | exact congrArg _ e2.out | rfl, by omega, hI9, HA.out.2.1, hK9, hO9, hQ9, by have := hm0.out; have := hm1.out; have := HC.out; omega, by have := hm0.out; have := hm1.out; have := HC.out; omega⟩, by simp [intOf]; omega⟩
        | false =>
          rw [hbi] at hcell
          have HFB : ∀ j, F1 j → j < wr.heap.size := hF1.out
          have HOT := HG1
          have HQ0 := HG0
          clear HG1 HG0
          have d0 := cell_at (o := 0) HK.out rfl
          have d1 := cell_at (o := 1) HK.out rfl
          have d2 := cell_at (o := 2) HK.out rfl
          have d3 := cell_at (o := 3) HK.out rfl
          have d4 := cell_at (o := 4) HK.out rfl
          have d5 := cell_at (o := 5) HK.out rfl
          have d6 := cell_at (o := 6) HK.out rfl
          have d7 := cell_at (o := 7) HK.out rfl
          have d8 := cell_at (o := 8) HK.out rfl
          have d9 := cell_at (o := 9) HK.out rfl
          have d10 := cell_at (o := 10) HK.out rfl
          have d11 := cell_at (o := 11) HK.out rfl
          have d12 := cell_at (o := 12) HK.out rfl
          have d13 := cell_at (o := 13) HK.out rfl
          simp only [List.getElem_toArray, List.getElem_cons_zero, List.getElem_cons_succ] at d0 d1 d2 d3 d4 d5 d6 d7 d8 d9 d10 d11 d12 d13
          go_wp2
          refine wp_region_ways (fun x => ∃ s, x = off lo hi wr s) (by kernel_rfl) (off_of ((Fr.refl lo hi wr).drew)) ?_
          refine ways_reads [0, 1, 2, 3, 4, 5] (by kernel_rfl) ?_
          simp only [pickL, List.map_cons, List.map_nil, List.getD_cons_zero, List.getD_cons_succ]
          repeat (go_big_quiet_step (fail))
          refine wpQuiet_nil ?_
          have HZ := Lib.hid ((Fr.refl lo hi wr).drew)
          have HI := Lib.hid (HR.out.ext (ext_drew (ext_refl wr)))
          have HQ := Lib.hid (HQ0.out.ext (ext_drew (ext_refl wr)))
          have HQF := Lib.hid HQ0.out.bn
          replace HOT := Lib.hid (HOT.out.ext (ext_drew (ext_refl wr)))
          replace HK := Lib.hid (HK.out.ext (ext_drew (ext_refl wr)))
          have hsx : wr.heap.size ≤ wr.drew.heap.size := Nat.le_refl _
          have hwtop := HR.out.m.top
          clear HR HQ0 d0 d1 d2 d3 d4 d5 d6 d7 d8 d9 d10 d11 d12 d13
          generalize wr.drew = X at HZ HI HQ hsx HOT HK ⊢
          refine ways_fork 11 (by kernel_rfl) ?_ (ways_act 6 (by kernel_rfl) ?_)
          · simp only [pickL, List.map_cons, List.map_nil, List.getD_cons_zero, List.getD_cons_succ]
            go_wp2
            have hxa := ext_alloc (.cells #[.int .u64 0, .int .i64 0, .int .i64 0, .int .u64 0, .int .u64 0, .nilFunc, .pointer none] 79) (ext_refl X)
            replace HZ := Lib.hid (HZ.out.ext hxa)
            replace HI := Lib.hid (HI.out.ext hxa)
            replace HOT := Lib.hid (HOT.out.ext hxa)
            replace HK := Lib.hid (HK.out.ext hxa)
            replace HQ := Lib.hid (HQ.out.ext hxa)
            have hbx := Lib.hid (heap_at X (.cells #[.int .u64 0, .int .i64 0, .int .i64 0, .int .u64 0, .int .u64 0, .nilFunc, .pointer none] 79) X.heap.size rfl)
            have hlx : wr.heap.size ≤ X.heap.size := hsx
            replace hsx : wr.heap.size ≤ (X.alloc (.cells #[.int .u64 0, .int .i64 0, .int .i64 0, .int .u64 0, .int .u64 0, .nilFunc, .pointer none] 79)).heap.size := by simp; omega
            clear hxa
            refine mixQ_mk (off_of HZ.out) ?_
            generalize X.alloc (.cells #[.int .u64 0, .int .i64 0, .int .i64 0, .int .u64 0, .int .u64 0, .nilFunc, .pointer none] 79) = XA at HZ HI hbx hsx HOT HK HQ ⊢
            generalize X.heap.size = bx at hbx hlx ⊢
            refine ways_act 6 (by kernel_rfl) ?_
            simp only [pickL, List.map_cons, List.map_nil, List.getD_cons_zero, List.getD_cons_succ]
            go_wp2_with (go_at_call 21; refine (cap_int HI.out.m 0 1#64 (by omega) (by rw [HI.out.mg.n]; omega) (Lib.hid HI.out.mg.e)).mono ?_; rintro e XC ⟨rfl, hx⟩; refine Hid.out ?_)
            refine Lib.hid ?_
            replace HZ := Lib.hid (HZ.out.ext hx)
            replace HI := Lib.hid (HI.out.ext hx)
            replace HQ := Lib.hid (HQ.out.ext hx)
            replace HOT := Lib.hid (HOT.out.ext hx)
            replace HK := Lib.hid (HK.out.ext hx)
            replace hbx := Lib.hid ((hx.block _ (heap_lt hbx.out)).trans hbx.out)
            replace hsx := Nat.le_trans hsx hx.size
            clear hx
            go_wp2
            refine mixQ_mk (off_of HZ.out) ?_
            refine ways_act 7 (by kernel_rfl) ?_
            simp only [pickL, List.map_cons, List.map_nil, List.getD_cons_zero, List.getD_cons_succ]
            go_wp2_with (go_at_call 32; refine (step_GOne HP.out HQ.out HI.out.m HI.out.mg (by omega) (by have := hpt.out; omega) (by omega) (by omega) hat0 hat1 hat2.out HWW.out).mono ?_; rintro e XS ⟨v2, F2, M2, N2, g2, bb2, rfl, hp, hbn, hsub, hm, hf, hA, hB, hC⟩; refine Hid.out ?_)
            refine Lib.hid ?_
            have hp2 := Lib.hid hp
            have hbn2 := Lib.hid hbn
            have hof2 := Lib.hid (fun j (hj : F2 j) => (hsub j hj).elim (fun h => (HQ.out.of j h)) (fun h => (⟨.inr (Nat.le_trans HI.out.m.top h), fun e => by omega⟩ : (j < lo ∨ hi ≤ j) ∧ j ≠ bg)))
            have HBO : Hid (∀ j, F2 j → j < XS.heap.size) := Lib.hid hbn
            have hnb : Hid (¬ F2 bx) := Lib.hid (fun h => (hsub _ h).elim (fun h => by have := HQF.out _ h; omega) (fun h => by have := heap_lt hbx.out; omega))
            replace HZ := Lib.hid (HZ.out.trans hf)
            replace HOT := Lib.hid (HOT.out.fr hf (hA.2.2 _ (by have := hpt.out; omega) (by omega)))
            replace HK := Lib.hid (HK.out.fr hf hbgh)
            replace HI := Lib.hid (HI.out.ran hm hf hA.1 (by omega) hlo1)
            have HA := Lib.hid hA
            have HB2 := Lib.hid hB
            have HC := Lib.hid hC
            clear hA hB hC
            replace hbx := Lib.hid ((hf.block _ (heap_lt hbx.out) (.inr (Nat.le_trans hwtop hlx))).trans hbx.out)
            replace hsx := Nat.le_trans hsx hf.size
            obtain ⟨y2, a2, fn2, rfl, hfn2⟩ := shU hp
            have HFN2 := Lib.hid hfn2
            clear hf hm hp hbn hsub hfn2 HQ
            go_wp2
            refine mixQ_mk (off_of HZ.out) ?_
            refine ways_reads [8, 9, 10] (by kernel_rfl) ?_
            simp only [pickL, List.map_cons, List.map_nil, List.getD_cons_zero, List.getD_cons_succ]
            repeat (go_big_quiet_step (fail))
            refine wpQuiet_nil ?_
            refine ways_act 12 (by kernel_rfl) ?_
            simp only [pickL, List.map_cons, List.map_nil, List.getD_cons_zero, List.getD_cons_succ]
            obtain ⟨k0, k1, k2, k3, k4, k5, k6, kz, kl⟩ := sev_of hbx.out
            have hB := put7_block (.int .u64 y2) (.int .i64 a2.op) (.int .i64 a2.at_) (.int .u64 (U a2.a)) (.int .u64 (U a2.b)) fn2 (.pointer none) hbx.out
            have hP := hp2.out.agr (Agr.of_put7 (b := bx) (.int .u64 y2) (.int .i64 a2.op) (.int .i64 a2.at_) (.int .u64 (U a2.a)) (.int .u64 (U a2.b)) fn2 (.pointer none) hnb.out)
            have hZZ := put7_frNew (b := bx) (.int .u64 y2) (.int .i64 a2.op) (.int .i64 a2.at_) (.int .u64 (U a2.a)) (.int .u64 (U a2.b)) fn2 (.pointer none) HZ.out hlx
            have hII := HI.out.put7 (b := bx) (.int .u64 y2) (.int .i64 a2.op) (.int .i64 a2.at_) (.int .u64 (U a2.a)) (.int .u64 (U a2.b)) fn2 (.pointer none) (Nat.le_trans hwtop hlx) (by omega) (by omega)
            have hSS : (put7 bx (.int .u64 y2) (.int .i64 a2.op) (.int .i64 a2.at_) (.int .u64 (U a2.a)) (.int .u64 (U a2.b)) fn2 (.pointer none) XS).heap.size = XS.heap.size := put7_size (.int .u64 y2) (.int .i64 a2.op) (.int .i64 a2.at_) (.int .u64 (U a2.a)) (.int .u64 (U a2.b)) fn2 (.pointer none)
            have hO0 := HOT.out.put7 (b := bx) (.int .u64 y2) (.int .i64 a2.op) (.int .i64 a2.at_) (.int .u64 (U a2.a)) (.int .u64 (U a2.b)) fn2 (.pointer none) (fun h => by have := HFB _ h; omega)
            have hO1 := HK.out.put7 (b' := bx) (.int .u64 y2) (.int .i64 a2.op) (.int .i64 a2.at_) (.int .u64 (U a2.a)) (.int .u64 (U a2.b)) fn2 (.pointer none) (by omega)
            rw [put7] at hB hP hZZ hII hSS hO0 hO1
            have HY := Lib.hid (And.intro hB (And.intro hP (And.intro hZZ (And.intro hII (And.intro hO0 (And.intro hO1 (hSS)))))))
            have HSW := Lib.hid (And.intro hbn2.out hsx)
            have hsf := store_fn HFN2.out
            clear hB hP hZZ hII hO0 hO1 hSS hp2 HZ HI hbx hbn2 HOT HK
            go_wp2
            obtain ⟨hB, hP, hZZ, hII, hO0, hO1, hSS⟩ := HY.out
            obtain ⟨hbn2, hsx2⟩ := HSW.out
            rw [← hSS] at hsx2
            have hbn3 : Bnd F2 _ := hbn2.ext (Nat.le_of_eq hSS.symm)
            clear HY HSW k0 k1 k2 k3 k4 k5 k6 kz kl hSS hsf
            generalize (World.setCell _ (⟨bx, 6, none⟩ : Addr) _) = Y at hB hP hZZ hII hsx2 hbn3 hO0 hO1 ⊢
            refine mixQ_mk (off_of hZZ) ?_
            have HB := Lib.hid hB
            have HPT := Lib.hid hP
            have HZZ := Lib.hid hZZ
            have HI := Lib.hid hII
            have HBN := Lib.hid hbn3
            have HOF := hof2
            have HOT := Lib.hid hO0
            have HK := Lib.hid hO1
            clear hB hP hZZ hII hbn3 hof2 hO0 hO1
            refine ways_reads [13] (by kernel_rfl) ?_
            simp only [pickL, List.map_cons, List.map_nil, List.getD_cons_zero, List.getD_cons_succ]
            repeat (go_big_quiet_step (fail))
            refine wpQuiet_nil ?_
            refine ways_end (by kernel_rfl) ?_
            obtain ⟨k0, k1, k2, k3, k4, k5, k6, kz, kl⟩ := sev_of HB.out
            have d0 := cell_at (o := 0) HK.out rfl
            have d1 := cell_at (o := 1) HK.out rfl
            have d2 := cell_at (o := 2) HK.out rfl
            have d3 := cell_at (o := 3) HK.out rfl
            have d4 := cell_at (o := 4) HK.out rfl
            have d5 := cell_at (o := 5) HK.out rfl
            have d6 := cell_at (o := 6) HK.out rfl
            have d7 := cell_at (o := 7) HK.out rfl
            have d8 := cell_at (o := 8) HK.out rfl
            have d9 := cell_at (o := 9) HK.out rfl
            have d10 := cell_at (o := 10) HK.out rfl
            have d11 := cell_at (o := 11) HK.out rfl
            have d12 := cell_at (o := 12) HK.out rfl
            have d13 := cell_at (o := 13) HK.out rfl
            simp only [List.getElem_toArray, List.getElem_cons_zero, List.getElem_cons_succ] at d0 d1 d2 d3 d4 d5 d6 d7 d8 d9 d10 d11 d12 d13
            have dz := fun o => free_at (o := o) HK.out
            have dl := HK.out.lt
            have hsf := store_fn HFN2.out
            have hQ9 := (GOne.mk HPT.out HBN.out HOF.out HFN2.out HB2.out.1 HB2.out.2.1 HB2.out.2.2.1 HB2.out.2.2.2 : GOne p 0 1 at_ sh x2 lo hi bg N2 g2 F2 y2 a2 fn2 M2 Y).put7o (o := 0) (.int .u64 y2) (.int .i64 a2.op) (.int .i64 a2.at_) (.int .u64 (U a2.a)) (.int .u64 (U a2.b)) fn2 (.pointer none)
            have hO9 := HOT.out.put7o (o := 0) (.int .u64 y2) (.int .i64 a2.op) (.int .i64 a2.at_) (.int .u64 (U a2.a)) (.int .u64 (U a2.b)) fn2 (.pointer none)
            have hI9 := HI.out.put7o (b := bg) (o := 0) (.int .u64 y2) (.int .i64 a2.op) (.int .i64 a2.at_) (.int .u64 (U a2.a)) (.int .u64 (U a2.b)) fn2 (.pointer none) hbgh (by omega) (by omega)
            have hK9 : Blk bg (.cells #[.int .u64 y2, .int .i64 a2.op, .int .i64 a2.at_, .int .u64 (U a2.a), .int .u64 (U a2.b), fn2, .pointer none, .int .u64 y1, .int .i64 a1.op, .int .i64 a1.at_, .int .u64 (U a1.a), .int .u64 (U a1.b), f1, .pointer none] 79) (put7o bg 0 (.int .u64 y2) (.int .i64 a2.op) (.int .i64 a2.at_) (.int .u64 (U a2.a)) (.int .u64 (U a2.b)) fn2 (.pointer none) Y) := put14a (.int .u64 y2) (.int .i64 a2.op) (.int .i64 a2.at_) (.int .u64 (U a2.a)) (.int .u64 (U a2.b)) fn2 (.pointer none) HK.out
            simp only [put7o, Nat.zero_add] at hQ9 hO9 hI9 hK9
            have HY := Lib.hid (And.intro hQ9 (And.intro hO9 (And.intro hI9 hK9)))
            clear hQ9 hO9 hI9 hK9 HPT HBN HOF HI HOT HK HZZ
            go_wp2
            obtain ⟨hQ9, hO9, hI9, hK9⟩ := HY.out
            exact ⟨⟨i + 1, N2, N1, M2, g2, g1, F2, F1, y2, y1, a2, a1, fn2, f1, by first | exact congrArg _ e2.out | rfl, by omega, hI9, HA.out.2.1, hK9, hQ9, hO9, by have := hm0.out; have := hm1.out; have := HC.out; omega, by have := hm0.out; have := hm1.out; have := HC.out; omega⟩, by simp [intOf]; omega⟩
          · simp only [pickL, List.map_cons, List.map_nil, List.getD_cons_zero, List.getD_cons_succ]
            go_wp2_with (go_at_call 21; refine (cap_int HI.out.m 0 1#64 (by omega) (by rw [HI.out.mg.n]; omega) (Lib.hid HI.out.mg.e)).mono ?_; rintro e XC ⟨rfl, hx⟩; refine Hid.out ?_)
            refine Lib.hid ?_
            replace HZ := Lib.hid (HZ.out.ext hx)
            replace HI := Lib.hid (HI.out.ext hx)
            replace HQ := Lib.hid (HQ.out.ext hx)
            replace HOT := Lib.hid (HOT.out.ext hx)
            replace HK := Lib.hid (HK.out.ext hx)
            replace hsx := Nat.le_trans hsx hx.size
            clear hx
            go_wp2
            refine mixQ_mk (off_of HZ.out) ?_
            refine ways_fork 11 (by kernel_rfl) ?_ (ways_act 7 (by kernel_rfl) ?_)
            · simp only [pickL, List.map_cons, List.map_nil, List.getD_cons_zero, List.getD_cons_succ]
              go_wp2
              have hxa := ext_alloc (.cells #[.int .u64 0, .int .i64 0, .int .i64 0, .int .u64 0, .int .u64 0, .nilFunc, .pointer none] 79) (ext_refl XC)
              replace HZ := Lib.hid (HZ.out.ext hxa)
              replace HI := Lib.hid (HI.out.ext hxa)
              replace HOT := Lib.hid (HOT.out.ext hxa)
              replace HK := Lib.hid (HK.out.ext hxa)
              replace HQ := Lib.hid (HQ.out.ext hxa)
              have hbx := Lib.hid (heap_at XC (.cells #[.int .u64 0, .int .i64 0, .int .i64 0, .int .u64 0, .int .u64 0, .nilFunc, .pointer none] 79) XC.heap.size rfl)
              have hlx : wr.heap.size ≤ XC.heap.size := hsx
              replace hsx : wr.heap.size ≤ (XC.alloc (.cells #[.int .u64 0, .int .i64 0, .int .i64 0, .int .u64 0, .int .u64 0, .nilFunc, .pointer none] 79)).heap.size := by simp; omega
              clear hxa
              refine mixQ_mk (off_of HZ.out) ?_
              generalize XC.alloc (.cells #[.int .u64 0, .int .i64 0, .int .i64 0, .int .u64 0, .int .u64 0, .nilFunc, .pointer none] 79) = XA at HZ HI hbx hsx HOT HK HQ ⊢
              generalize XC.heap.size = bx at hbx hlx ⊢
              refine ways_act 7 (by kernel_rfl) ?_
              simp only [pickL, List.map_cons, List.map_nil, List.getD_cons_zero, List.getD_cons_succ]
              go_wp2_with (go_at_call 32; refine (step_GOne HP.out HQ.out HI.out.m HI.out.mg (by omega) (by have := hpt.out; omega) (by omega) (by omega) hat0 hat1 hat2.out HWW.out).mono ?_; rintro e XS ⟨v2, F2, M2, N2, g2, bb2, rfl, hp, hbn, hsub, hm, hf, hA, hB, hC⟩; refine Hid.out ?_)
              refine Lib.hid ?_
              have hp2 := Lib.hid hp
              have hbn2 := Lib.hid hbn
              have hof2 := Lib.hid (fun j (hj : F2 j) => (hsub j hj).elim (fun h => (HQ.out.of j h)) (fun h => (⟨.inr (Nat.le_trans HI.out.m.top h), fun e => by omega⟩ : (j < lo ∨ hi ≤ j) ∧ j ≠ bg)))
              have HBO : Hid (∀ j, F2 j → j < XS.heap.size) := Lib.hid hbn
              have hnb : Hid (¬ F2 bx) := Lib.hid (fun h => (hsub _ h).elim (fun h => by have := HQF.out _ h; omega) (fun h => by have := heap_lt hbx.out; omega))
              replace HZ := Lib.hid (HZ.out.trans hf)
              replace HOT := Lib.hid (HOT.out.fr hf (hA.2.2 _ (by have := hpt.out; omega) (by omega)))
              replace HK := Lib.hid (HK.out.fr hf hbgh)
              replace HI := Lib.hid (HI.out.ran hm hf hA.1 (by omega) hlo1)
              have HA := Lib.hid hA
              have HB2 := Lib.hid hB
              have HC := Lib.hid hC
              clear hA hB hC
              replace hbx := Lib.hid ((hf.block _ (heap_lt hbx.out) (.inr (Nat.le_trans hwtop hlx))).trans hbx.out)
              replace hsx := Nat.le_trans hsx hf.size
              obtain ⟨y2, a2, fn2, rfl, hfn2⟩ := shU hp
              have HFN2 := Lib.hid hfn2
              clear hf hm hp hbn hsub hfn2 HQ
              go_wp2
              refine mixQ_mk (off_of HZ.out) ?_
              refine ways_reads [8, 9, 10] (by kernel_rfl) ?_
              simp only [pickL, List.map_cons, List.map_nil, List.getD_cons_zero, List.getD_cons_succ]
              repeat (go_big_quiet_step (fail))
              refine wpQuiet_nil ?_
              refine ways_act 12 (by kernel_rfl) ?_
              simp only [pickL, List.map_cons, List.map_nil, List.getD_cons_zero, List.getD_cons_succ]
              obtain ⟨k0, k1, k2, k3, k4, k5, k6, kz, kl⟩ := sev_of hbx.out
              have hB := put7_block (.int .u64 y2) (.int .i64 a2.op) (.int .i64 a2.at_) (.int .u64 (U a2.a)) (.int .u64 (U a2.b)) fn2 (.pointer none) hbx.out
              have hP := hp2.out.agr (Agr.of_put7 (b := bx) (.int .u64 y2) (.int .i64 a2.op) (.int .i64 a2.at_) (.int .u64 (U a2.a)) (.int .u64 (U a2.b)) fn2 (.pointer none) hnb.out)
              have hZZ := put7_frNew (b := bx) (.int .u64 y2) (.int .i64 a2.op) (.int .i64 a2.at_) (.int .u64 (U a2.a)) (.int .u64 (U a2.b)) fn2 (.pointer none) HZ.out hlx
              have hII := HI.out.put7 (b := bx) (.int .u64 y2) (.int .i64 a2.op) (.int .i64 a2.at_) (.int .u64 (U a2.a)) (.int .u64 (U a2.b)) fn2 (.pointer none) (Nat.le_trans hwtop hlx) (by omega) (by omega)
              have hSS : (put7 bx (.int .u64 y2) (.int .i64 a2.op) (.int .i64 a2.at_) (.int .u64 (U a2.a)) (.int .u64 (U a2.b)) fn2 (.pointer none) XS).heap.size = XS.heap.size := put7_size (.int .u64 y2) (.int .i64 a2.op) (.int .i64 a2.at_) (.int .u64 (U a2.a)) (.int .u64 (U a2.b)) fn2 (.pointer none)
              have hO0 := HOT.out.put7 (b := bx) (.int .u64 y2) (.int .i64 a2.op) (.int .i64 a2.at_) (.int .u64 (U a2.a)) (.int .u64 (U a2.b)) fn2 (.pointer none) (fun h => by have := HFB _ h; omega)
              have hO1 := HK.out.put7 (b' := bx) (.int .u64 y2) (.int .i64 a2.op) (.int .i64 a2.at_) (.int .u64 (U a2.a)) (.int .u64 (U a2.b)) fn2 (.pointer none) (by omega)
              rw [put7] at hB hP hZZ hII hSS hO0 hO1
              have HY := Lib.hid (And.intro hB (And.intro hP (And.intro hZZ (And.intro hII (And.intro hO0 (And.intro hO1 (hSS)))))))
              have HSW := Lib.hid (And.intro hbn2.out hsx)
              have hsf := store_fn HFN2.out
              clear hB hP hZZ hII hO0 hO1 hSS hp2 HZ HI hbx hbn2 HOT HK
              go_wp2
              obtain ⟨hB, hP, hZZ, hII, hO0, hO1, hSS⟩ := HY.out
              obtain ⟨hbn2, hsx2⟩ := HSW.out
              rw [← hSS] at hsx2
              have hbn3 : Bnd F2 _ := hbn2.ext (Nat.le_of_eq hSS.symm)
              clear HY HSW k0 k1 k2 k3 k4 k5 k6 kz kl hSS hsf
              generalize (World.setCell _ (⟨bx, 6, none⟩ : Addr) _) = Y at hB hP hZZ hII hsx2 hbn3 hO0 hO1 ⊢
              refine mixQ_mk (off_of hZZ) ?_
              have HB := Lib.hid hB
              have HPT := Lib.hid hP
              have HZZ := Lib.hid hZZ
              have HI := Lib.hid hII
              have HBN := Lib.hid hbn3
              have HOF := hof2
              have HOT := Lib.hid hO0
              have HK := Lib.hid hO1
              clear hB hP hZZ hII hbn3 hof2 hO0 hO1
              refine ways_reads [13] (by kernel_rfl) ?_
              simp only [pickL, List.map_cons, List.map_nil, List.getD_cons_zero, List.getD_cons_succ]
              repeat (go_big_quiet_step (fail))
              refine wpQuiet_nil ?_
              refine ways_end (by kernel_rfl) ?_
              obtain ⟨k0, k1, k2, k3, k4, k5, k6, kz, kl⟩ := sev_of HB.out
              have d0 := cell_at (o := 0) HK.out rfl
              have d1 := cell_at (o := 1) HK.out rfl
              have d2 := cell_at (o := 2) HK.out rfl
              have d3 := cell_at (o := 3) HK.out rfl
              have d4 := cell_at (o := 4) HK.out rfl
              have d5 := cell_at (o := 5) HK.out rfl
              have d6 := cell_at (o := 6) HK.out rfl
              have d7 := cell_at (o := 7) HK.out rfl
              have d8 := cell_at (o := 8) HK.out rfl
              have d9 := cell_at (o := 9) HK.out rfl
              have d10 := cell_at (o := 10) HK.out rfl
              have d11 := cell_at (o := 11) HK.out rfl
              have d12 := cell_at (o := 12) HK.out rfl
              have d13 := cell_at (o := 13) HK.out rfl
              simp only [List.getElem_toArray, List.getElem_cons_zero, List.getElem_cons_succ] at d0 d1 d2 d3 d4 d5 d6 d7 d8 d9 d10 d11 d12 d13
              have dz := fun o => free_at (o := o) HK.out
              have dl := HK.out.lt
              have hsf := store_fn HFN2.out
              have hQ9 := (GOne.mk HPT.out HBN.out HOF.out HFN2.out HB2.out.1 HB2.out.2.1 HB2.out.2.2.1 HB2.out.2.2.2 : GOne p 0 1 at_ sh x2 lo hi bg N2 g2 F2 y2 a2 fn2 M2 Y).put7o (o := 0) (.int .u64 y2) (.int .i64 a2.op) (.int .i64 a2.at_) (.int .u64 (U a2.a)) (.int .u64 (U a2.b)) fn2 (.pointer none)
              have hO9 := HOT.out.put7o (o := 0) (.int .u64 y2) (.int .i64 a2.op) (.int .i64 a2.at_) (.int .u64 (U a2.a)) (.int .u64 (U a2.b)) fn2 (.pointer none)
              have hI9 := HI.out.put7o (b := bg) (o := 0) (.int .u64 y2) (.int .i64 a2.op) (.int .i64 a2.at_) (.int .u64 (U a2.a)) (.int .u64 (U a2.b)) fn2 (.pointer none) hbgh (by omega) (by omega)
              have hK9 : Blk bg (.cells #[.int .u64 y2, .int .i64 a2.op, .int .i64 a2.at_, .int .u64 (U a2.a), .int .u64 (U a2.b), fn2, .pointer none, .int .u64 y1, .int .i64 a1.op, .int .i64 a1.at_, .int .u64 (U a1.a), .int .u64 (U a1.b), f1, .pointer none] 79) (put7o bg 0 (.int .u64 y2) (.int .i64 a2.op) (.int .i64 a2.at_) (.int .u64 (U a2.a)) (.int .u64 (U a2.b)) fn2 (.pointer none) Y) := put14a (.int .u64 y2) (.int .i64 a2.op) (.int .i64 a2.at_) (.int .u64 (U a2.a)) (.int .u64 (U a2.b)) fn2 (.pointer none) HK.out
              simp only [put7o, Nat.zero_add] at hQ9 hO9 hI9 hK9
              have HY := Lib.hid (And.intro hQ9 (And.intro hO9 (And.intro hI9 hK9)))
              clear hQ9 hO9 hI9 hK9 HPT HBN HOF HI HOT HK HZZ
              go_wp2
              obtain ⟨hQ9, hO9, hI9, hK9⟩ := HY.out
              exact ⟨⟨i + 1, N2, N1, M2, g2, g1, F2, F1, y2, y1, a2, a1, fn2, f1, by first | exact congrArg _ e2.out | rfl, by omega, hI9, HA.out.2.1, hK9, hQ9, hO9, by have := hm0.out; have := hm1.out; have := HC.out; omega, by have := hm0.out; have := hm1.out; have := HC.out; omega⟩, by simp [intOf]; omega⟩
            · simp only [pickL, List.map_cons, List.map_nil, List.getD_cons_zero, List.getD_cons_succ]
              go_wp2_with (go_at_call 32; refine (step_GOne HP.out HQ.out HI.out.m HI.out.mg (by omega) (by have := hpt.out; omega) (by omega) (by omega) hat0 hat1 hat2.out HWW.out).mono ?_; rintro e XS ⟨v2, F2, M2, N2, g2, bb2, rfl, hp, hbn, hsub, hm, hf, hA, hB, hC⟩; refine Hid.out ?_)
              refine Lib.hid ?_
              have hp2 := Lib.hid hp
              have hbn2 := Lib.hid hbn
              have hof2 := Lib.hid (fun j (hj : F2 j) => (hsub j hj).elim (fun h => (HQ.out.of j h)) (fun h => (⟨.inr (Nat.le_trans HI.out.m.top h), fun e => by omega⟩ : (j < lo ∨ hi ≤ j) ∧ j ≠ bg)))
              have HBO : Hid (∀ j, F2 j → j < XS.heap.size) := Lib.hid hbn
              replace HZ := Lib.hid (HZ.out.trans hf)
              replace HOT := Lib.hid (HOT.out.fr hf (hA.2.2 _ (by have := hpt.out; omega) (by omega)))
              replace HK := Lib.hid (HK.out.fr hf hbgh)
              replace HI := Lib.hid (HI.out.ran hm hf hA.1 (by omega) hlo1)
              have HA := Lib.hid hA
              have HB2 := Lib.hid hB
              have HC := Lib.hid hC
              clear hA hB hC
              replace hsx := Nat.le_trans hsx hf.size
              obtain ⟨y2, a2, fn2, rfl, hfn2⟩ := shU hp
              have HFN2 := Lib.hid hfn2
              clear hf hm hp hbn hsub hfn2 HQ
              go_wp2
              refine mixQ_mk (off_of HZ.out) ?_
              refine ways_reads [8, 9, 10] (by kernel_rfl) ?_
              simp only [pickL, List.map_cons, List.map_nil, List.getD_cons_zero, List.getD_cons_succ]
              repeat (go_big_quiet_step (fail))
              refine wpQuiet_nil ?_
              refine ways_act 11 (by kernel_rfl) ?_
              simp only [pickL, List.map_cons, List.map_nil, List.getD_cons_zero, List.getD_cons_succ]
              go_wp2
              have hxa := ext_alloc (.cells #[.int .u64 0, .int .i64 0, .int .i64 0, .int .u64 0, .int .u64 0, .nilFunc, .pointer none] 79) (ext_refl XS)
              replace HZ := Lib.hid (HZ.out.ext hxa)
              replace HI := Lib.hid (HI.out.ext hxa)
              replace HOT := Lib.hid (HOT.out.ext hxa)
              replace HK := Lib.hid (HK.out.ext hxa)
              replace hp2 := Lib.hid (hp2.out.agr (Agr.of_ext hxa hbn2.out))
              replace hbn2 := Lib.hid (hbn2.out.ext hxa.size)
              have hbx := Lib.hid (heap_at XS (.cells #[.int .u64 0, .int .i64 0, .int .i64 0, .int .u64 0, .int .u64 0, .nilFunc, .pointer none] 79) XS.heap.size rfl)
              have hlx : wr.heap.size ≤ XS.heap.size := hsx
              replace hsx : wr.heap.size ≤ (XS.alloc (.cells #[.int .u64 0, .int .i64 0, .int .i64 0, .int .u64 0, .int .u64 0, .nilFunc, .pointer none] 79)).heap.size := by simp; omega
              have hnb : Hid (¬ F2 XS.heap.size) := Lib.hid (fun h => by have := HBO.out _ h; omega)
              clear hxa
              refine mixQ_mk (off_of HZ.out) ?_
              generalize XS.alloc (.cells #[.int .u64 0, .int .i64 0, .int .i64 0, .int .u64 0, .int .u64 0, .nilFunc, .pointer none] 79) = XA at HZ HI hbx hsx HOT HK hp2 hbn2 ⊢
              generalize XS.heap.size = bx at hbx hlx hnb ⊢
              refine ways_act 12 (by kernel_rfl) ?_
              simp only [pickL, List.map_cons, List.map_nil, List.getD_cons_zero, List.getD_cons_succ]
              obtain ⟨k0, k1, k2, k3, k4, k5, k6, kz, kl⟩ := sev_of hbx.out
              have hB := put7_block (.int .u64 y2) (.int .i64 a2.op) (.int .i64 a2.at_) (.int .u64 (U a2.a)) (.int .u64 (U a2.b)) fn2 (.pointer none) hbx.out
              have hP := hp2.out.agr (Agr.of_put7 (b := bx) (.int .u64 y2) (.int .i64 a2.op) (.int .i64 a2.at_) (.int .u64 (U a2.a)) (.int .u64 (U a2.b)) fn2 (.pointer none) hnb.out)
              have hZZ := put7_frNew (b := bx) (.int .u64 y2) (.int .i64 a2.op) (.int .i64 a2.at_) (.int .u64 (U a2.a)) (.int .u64 (U a2.b)) fn2 (.pointer none) HZ.out hlx
              have hII := HI.out.put7 (b := bx) (.int .u64 y2) (.int .i64 a2.op) (.int .i64 a2.at_) (.int .u64 (U a2.a)) (.int .u64 (U a2.b)) fn2 (.pointer none) (Nat.le_trans hwtop hlx) (by omega) (by omega)
              have hSS : (put7 bx (.int .u64 y2) (.int .i64 a2.op) (.int .i64 a2.at_) (.int .u64 (U a2.a)) (.int .u64 (U a2.b)) fn2 (.pointer none) XA).heap.size = XA.heap.size := put7_size (.int .u64 y2) (.int .i64 a2.op) (.int .i64 a2.at_) (.int .u64 (U a2.a)) (.int .u64 (U a2.b)) fn2 (.pointer none)
              have hO0 := HOT.out.put7 (b := bx) (.int .u64 y2) (.int .i64 a2.op) (.int .i64 a2.at_) (.int .u64 (U a2.a)) (.int .u64 (U a2.b)) fn2 (.pointer none) (fun h => by have := HFB _ h; omega)
              have hO1 := HK.out.put7 (b' := bx) (.int .u64 y2) (.int .i64 a2.op) (.int .i64 a2.at_) (.int .u64 (U a2.a)) (.int .u64 (U a2.b)) fn2 (.pointer none) (by omega)
              rw [put7] at hB hP hZZ hII hSS hO0 hO1
              have HY := Lib.hid (And.intro hB (And.intro hP (And.intro hZZ (And.intro hII (And.intro hO0 (And.intro hO1 (hSS)))))))
              have HSW := Lib.hid (And.intro hbn2.out hsx)
              have hsf := store_fn HFN2.out
              clear hB hP hZZ hII hO0 hO1 hSS hp2 HZ HI hbx hbn2 HOT HK
              go_wp2
              obtain ⟨hB, hP, hZZ, hII, hO0, hO1, hSS⟩ := HY.out
              obtain ⟨hbn2, hsx2⟩ := HSW.out
              rw [← hSS] at hsx2
              have hbn3 : Bnd F2 _ := hbn2.ext (Nat.le_of_eq hSS.symm)
              clear HY HSW k0 k1 k2 k3 k4 k5 k6 kz kl hSS hsf
              generalize (World.setCell _ (⟨bx, 6, none⟩ : Addr) _) = Y at hB hP hZZ hII hsx2 hbn3 hO0 hO1 ⊢
              refine mixQ_mk (off_of hZZ) ?_
              have HB := Lib.hid hB
              have HPT := Lib.hid hP
              have HZZ := Lib.hid hZZ
              have HI := Lib.hid hII
              have HBN := Lib.hid hbn3
              have HOF := hof2
              have HOT := Lib.hid hO0
              have HK := Lib.hid hO1
              clear hB hP hZZ hII hbn3 hof2 hO0 hO1
              refine ways_reads [13] (by kernel_rfl) ?_
              simp only [pickL, List.map_cons, List.map_nil, List.getD_cons_zero, List.getD_cons_succ]
              repeat (go_big_quiet_step (fail))
              refine wpQuiet_nil ?_
              refine ways_end (by kernel_rfl) ?_
              obtain ⟨k0, k1, k2, k3, k4, k5, k6, kz, kl⟩ := sev_of HB.out
              have d0 := cell_at (o := 0) HK.out rfl
              have d1 := cell_at (o := 1) HK.out rfl
              have d2 := cell_at (o := 2) HK.out rfl
              have d3 := cell_at (o := 3) HK.out rfl
              have d4 := cell_at (o := 4) HK.out rfl
              have d5 := cell_at (o := 5) HK.out rfl
              have d6 := cell_at (o := 6) HK.out rfl
              have d7 := cell_at (o := 7) HK.out rfl
              have d8 := cell_at (o := 8) HK.out rfl
              have d9 := cell_at (o := 9) HK.out rfl
              have d10 := cell_at (o := 10) HK.out rfl
              have d11 := cell_at (o := 11) HK.out rfl
              have d12 := cell_at (o := 12) HK.out rfl
              have d13 := cell_at (o := 13) HK.out rfl
              simp only [List.getElem_toArray, List.getElem_cons_zero, List.getElem_cons_succ] at d0 d1 d2 d3 d4 d5 d6 d7 d8 d9 d10 d11 d12 d13
              have dz := fun o => free_at (o := o) HK.out
              have dl := HK.out.lt
              have hsf := store_fn HFN2.out
              have hQ9 := (GOne.mk HPT.out HBN.out HOF.out HFN2.out HB2.out.1 HB2.out.2.1 HB2.out.2.2.1 HB2.out.2.2.2 : GOne p 0 1 at_ sh x2 lo hi bg N2 g2 F2 y2 a2 fn2 M2 Y).put7o (o := 0) (.int .u64 y2) (.int .i64 a2.op) (.int .i64 a2.at_) (.int .u64 (U a2.a)) (.int .u64 (U a2.b)) fn2 (.pointer none)
              have hO9 := HOT.out.put7o (o := 0) (.int .u64 y2) (.int .i64 a2.op) (.int .i64 a2.at_) (.int .u64 (U a2.a)) (.int .u64 (U a2.b)) fn2 (.pointer none)
              have hI9 := HI.out.put7o (b := bg) (o := 0) (.int .u64 y2) (.int .i64 a2.op) (.int .i64 a2.at_) (.int .u64 (U a2.a)) (.int .u64 (U a2.b)) fn2 (.pointer none) hbgh (by omega) (by omega)
              have hK9 : Blk bg (.cells #[.int .u64 y2, .int .i64 a2.op, .int .i64 a2.at_, .int .u64 (U a2.a), .int .u64 (U a2.b), fn2, .pointer none, .int .u64 y1, .int .i64 a1.op, .int .i64 a1.at_, .int .u64 (U a1.a), .int .u64 (U a1.b), f1, .pointer none] 79) (put7o bg 0 (.int .u64 y2) (.int .i64 a2.op) (.int .i64 a2.at_) (.int .u64 (U a2.a)) (.int .u64 (U a2.b)) fn2 (.pointer none) Y) := put14a (.int .u64 y2) (.int .i64 a2.op) (.int .i64 a2.at_) (.int .u64 (U a2.a)) (.int .u64 (U a2.b)) fn2 (.pointer none) HK.out
              simp only [put7o, Nat.zero_add] at hQ9 hO9 hI9 hK9
              have HY := Lib.hid (And.intro hQ9 (And.intro hO9 (And.intro hI9 hK9)))
              clear hQ9 hO9 hI9 hK9 HPT HBN HOF HI HOT HK HZZ
              go_wp2
              obtain ⟨hQ9, hO9, hI9, hK9⟩ := HY.out
              exact ⟨⟨i + 1, N2, N1, M2, g2, g1, F2, F1, y2, y1, a2, a1, fn2, f1, by first | exact congrArg _ e2.out | rfl, by omega, hI9, HA.out.2.1, hK9, hQ9, hO9, by have := hm0.out; have := hm1.out; have := HC.out; omega, by have := hm0.out; have := hm1.out; have := HC.out; omega⟩, by simp [intOf]; omega⟩
      · have hip' : ¬ (i : Int) < ps.length := by omega
        have hip2 : decide ((i : Int) < ps.length) = false := by simp; omega
        by_cases hev : i % 2 = 0
        · have hm2 : Int.tmod (i : Int) 2 = 0 := by rw [Int.tmod_eq_emod_of_nonneg (by omega)]; omega
          have HFB : ∀ j, F1 j → j < wr.heap.size := hF1.out
          have HOT := HG1
          have HQ0 := HG0
          clear HG1 HG0
          have d0 := cell_at (o := 0) HK.out rfl
          have d1 := cell_at (o := 1) HK.out rfl
          have d2 := cell_at (o := 2) HK.out rfl
          have d3 := cell_at (o := 3) HK.out rfl
          have d4 := cell_at (o := 4) HK.out rfl
          have d5 := cell_at (o := 5) HK.out rfl
          have d6 := cell_at (o := 6) HK.out rfl
          have d7 := cell_at (o := 7) HK.out rfl
          have d8 := cell_at (o := 8) HK.out rfl
          have d9 := cell_at (o := 9) HK.out rfl
          have d10 := cell_at (o := 10) HK.out rfl
          have d11 := cell_at (o := 11) HK.out rfl
          have d12 := cell_at (o := 12) HK.out rfl
          have d13 := cell_at (o := 13) HK.out rfl
          simp only [List.getElem_toArray, List.getElem_cons_zero, List.getElem_cons_succ] at d0 d1 d2 d3 d4 d5 d6 d7 d8 d9 d10 d11 d12 d13
          go_wp2
          refine wp_region_ways (fun x => ∃ s, x = off lo hi wr s) (by kernel_rfl) (off_of ((Fr.refl lo hi wr).drew)) ?_
          refine ways_reads [0, 1, 2, 3, 4, 5] (by kernel_rfl) ?_
          simp only [pickL, List.map_cons, List.map_nil, List.getD_cons_zero, List.getD_cons_succ]
          repeat (go_big_quiet_step (fail))
          refine wpQuiet_nil ?_
          have HZ := Lib.hid ((Fr.refl lo hi wr).drew)
          have HI := Lib.hid (HR.out.ext (ext_drew (ext_refl wr)))
          have HQ := Lib.hid (HQ0.out.ext (ext_drew (ext_refl wr)))
          have HQF := Lib.hid HQ0.out.bn
          replace HOT := Lib.hid (HOT.out.ext (ext_drew (ext_refl wr)))
          replace HK := Lib.hid (HK.out.ext (ext_drew (ext_refl wr)))
          have hsx : wr.heap.size ≤ wr.drew.heap.size := Nat.le_refl _
          have hwtop := HR.out.m.top
          clear HR HQ0 d0 d1 d2 d3 d4 d5 d6 d7 d8 d9 d10 d11 d12 d13
          generalize wr.drew = X at HZ HI HQ hsx HOT HK ⊢
          refine ways_fork 11 (by kernel_rfl) ?_ (ways_act 6 (by kernel_rfl) ?_)
          · simp only [pickL, List.map_cons, List.map_nil, List.getD_cons_zero, List.getD_cons_succ]
            go_wp2
            have hxa := ext_alloc (.cells #[.int .u64 0, .int .i64 0, .int .i64 0, .int .u64 0, .int .u64 0, .nilFunc, .pointer none] 79) (ext_refl X)
            replace HZ := Lib.hid (HZ.out.ext hxa)
            replace HI := Lib.hid (HI.out.ext hxa)
            replace HOT := Lib.hid (HOT.out.ext hxa)
            replace HK := Lib.hid (HK.out.ext hxa)
            replace HQ := Lib.hid (HQ.out.ext hxa)
            have hbx := Lib.hid (heap_at X (.cells #[.int .u64 0, .int .i64 0, .int .i64 0, .int .u64 0, .int .u64 0, .nilFunc, .pointer none] 79) X.heap.size rfl)
            have hlx : wr.heap.size ≤ X.heap.size := hsx
            replace hsx : wr.heap.size ≤ (X.alloc (.cells #[.int .u64 0, .int .i64 0, .int .i64 0, .int .u64 0, .int .u64 0, .nilFunc, .pointer none] 79)).heap.size := by simp; omega
            clear hxa
            refine mixQ_mk (off_of HZ.out) ?_
            generalize X.alloc (.cells #[.int .u64 0, .int .i64 0, .int .i64 0, .int .u64 0, .int .u64 0, .nilFunc, .pointer none] 79) = XA at HZ HI hbx hsx HOT HK HQ ⊢
            generalize X.heap.size = bx at hbx hlx ⊢
            refine ways_act 6 (by kernel_rfl) ?_
            simp only [pickL, List.map_cons, List.map_nil, List.getD_cons_zero, List.getD_cons_succ]
            go_wp2_with (go_at_call 21; refine (cap_int HI.out.m 0 1#64 (by omega) (by rw [HI.out.mg.n]; omega) (Lib.hid HI.out.mg.e)).mono ?_; rintro e XC ⟨rfl, hx⟩; refine Hid.out ?_)
            refine Lib.hid ?_
            replace HZ := Lib.hid (HZ.out.ext hx)
            replace HI := Lib.hid (HI.out.ext hx)
            replace HQ := Lib.hid (HQ.out.ext hx)
            replace HOT := Lib.hid (HOT.out.ext hx)
            replace HK := Lib.hid (HK.out.ext hx)
            replace hbx := Lib.hid ((hx.block _ (heap_lt hbx.out)).trans hbx.out)
            replace hsx := Nat.le_trans hsx hx.size
            clear hx
            go_wp2
            refine mixQ_mk (off_of HZ.out) ?_
            refine ways_act 7 (by kernel_rfl) ?_
            simp only [pickL, List.map_cons, List.map_nil, List.getD_cons_zero, List.getD_cons_succ]
            go_wp2_with (go_at_call 32; refine (step_GOne HP.out HQ.out HI.out.m HI.out.mg (by omega) (by have := hpt.out; omega) (by omega) (by omega) hat0 hat1 hat2.out HWW.out).mono ?_; rintro e XS ⟨v2, F2, M2, N2, g2, bb2, rfl, hp, hbn, hsub, hm, hf, hA, hB, hC⟩; refine Hid.out ?_)
            refine Lib.hid ?_
            have hp2 := Lib.hid hp
            have hbn2 := Lib.hid hbn
            have hof2 := Lib.hid (fun j (hj : F2 j) => (hsub j hj).elim (fun h => (HQ.out.of j h)) (fun h => (⟨.inr (Nat.le_trans HI.out.m.top h), fun e => by omega⟩ : (j < lo ∨ hi ≤ j) ∧ j ≠ bg)))
            have HBO : Hid (∀ j, F2 j → j < XS.heap.size) := Lib.hid hbn
            have hnb : Hid (¬ F2 bx) := Lib.hid (fun h => (hsub _ h).elim (fun h => by have := HQF.out _ h; omega) (fun h => by have := heap_lt hbx.out; omega))
            replace HZ := Lib.hid (HZ.out.trans hf)
            replace HOT := Lib.hid (HOT.out.fr hf (hA.2.2 _ (by have := hpt.out; omega) (by omega)))
            replace HK := Lib.hid (HK.out.fr hf hbgh)
            replace HI := Lib.hid (HI.out.ran hm hf hA.1 (by omega) hlo1)
            have HA := Lib.hid hA
            have HB2 := Lib.hid hB
            have HC := Lib.hid hC
            clear hA hB hC
            replace hbx := Lib.hid ((hf.block _ (heap_lt hbx.out) (.inr (Nat.le_trans hwtop hlx))).trans hbx.out)
            replace hsx := Nat.le_trans hsx hf.size
            obtain ⟨y2, a2, fn2, rfl, hfn2⟩ := shU hp
            have HFN2 := Lib.hid hfn2
            clear hf hm hp hbn hsub hfn2 HQ
            go_wp2
            refine mixQ_mk (off_of HZ.out) ?_
            refine ways_reads [8, 9, 10] (by kernel_rfl) ?_
            simp only [pickL, List.map_cons, List.map_nil, List.getD_cons_zero, List.getD_cons_succ]
            repeat (go_big_quiet_step (fail))
            refine wpQuiet_nil ?_
            refine ways_act 12 (by kernel_rfl) ?_
            simp only [pickL, List.map_cons, List.map_nil, List.getD_cons_zero, List.getD_cons_succ]
            obtain ⟨k0, k1, k2, k3, k4, k5, k6, kz, kl⟩ := sev_of hbx.out
            have hB := put7_block (.int .u64 y2) (.int .i64 a2.op) (.int .i64 a2.at_) (.int .u64 (U a2.a)) (.int .u64 (U a2.b)) fn2 (.pointer none) hbx.out
            have hP := hp2.out.agr (Agr.of_put7 (b := bx) (.int .u64 y2) (.int .i64 a2.op) (.int .i64 a2.at_) (.int .u64 (U a2.a)) (.int .u64 (U a2.b)) fn2 (.pointer none) hnb.out)
            have hZZ := put7_frNew (b := bx) (.int .u64 y2) (.int .i64 a2.op) (.int .i64 a2.at_) (.int .u64 (U a2.a)) (.int .u64 (U a2.b)) fn2 (.pointer none) HZ.out hlx
            have hII := HI.out.put7 (b := bx) (.int .u64 y2) (.int .i64 a2.op) (.int .i64 a2.at_) (.int .u64 (U a2.a)) (.int .u64 (U a2.b)) fn2 (.pointer none) (Nat.le_trans hwtop hlx) (by omega) (by omega)
            have hSS : (put7 bx (.int .u64 y2) (.int .i64 a2.op) (.int .i64 a2.at_) (.int .u64 (U a2.a)) (.int .u64 (U a2.b)) fn2 (.pointer none) XS).heap.size = XS.heap.size := put7_size (.int .u64 y2) (.int .i64 a2.op) (.int .i64 a2.at_) (.int .u64 (U a2.a)) (.int .u64 (U a2.b)) fn2 (.pointer none)
            have hO0 := HOT.out.put7 (b := bx) (.int .u64 y2) (.int .i64 a2.op) (.int .i64 a2.at_) (.int .u64 (U a2.a)) (.int .u64 (U a2.b)) fn2 (.pointer none) (fun h => by have := HFB _ h; omega)
            have hO1 := HK.out.put7 (b' := bx) (.int .u64 y2) (.int .i64 a2.op) (.int .i64 a2.at_) (.int .u64 (U a2.a)) (.int .u64 (U a2.b)) fn2 (.pointer none) (by omega)
            rw [put7] at hB hP hZZ hII hSS hO0 hO1
            have HY := Lib.hid (And.intro hB (And.intro hP (And.intro hZZ (And.intro hII (And.intro hO0 (And.intro hO1 (hSS)))))))
            have HSW := Lib.hid (And.intro hbn2.out hsx)
            have hsf := store_fn HFN2.out
            clear hB hP hZZ hII hO0 hO1 hSS hp2 HZ HI hbx hbn2 HOT HK
            go_wp2
            obtain ⟨hB, hP, hZZ, hII, hO0, hO1, hSS⟩ := HY.out
            obtain ⟨hbn2, hsx2⟩ := HSW.out
            rw [← hSS] at hsx2
            have hbn3 : Bnd F2 _ := hbn2.ext (Nat.le_of_eq hSS.symm)
            clear HY HSW k0 k1 k2 k3 k4 k5 k6 kz kl hSS hsf
            generalize (World.setCell _ (⟨bx, 6, none⟩ : Addr) _) = Y at hB hP hZZ hII hsx2 hbn3 hO0 hO1 ⊢
            refine mixQ_mk (off_of hZZ) ?_
            have HB := Lib.hid hB
            have HPT := Lib.hid hP
            have HZZ := Lib.hid hZZ
            have HI := Lib.hid hII
            have HBN := Lib.hid hbn3
            have HOF := hof2
            have HOT := Lib.hid hO0
            have HK := Lib.hid hO1
            clear hB hP hZZ hII hbn3 hof2 hO0 hO1
            refine ways_reads [13] (by kernel_rfl) ?_
            simp only [pickL, List.map_cons, List.map_nil, List.getD_cons_zero, List.getD_cons_succ]
            repeat (go_big_quiet_step (fail))
            refine wpQuiet_nil ?_
            refine ways_end (by kernel_rfl) ?_
            obtain ⟨k0, k1, k2, k3, k4, k5, k6, kz, kl⟩ := sev_of HB.out
            have d0 := cell_at (o := 0) HK.out rfl
            have d1 := cell_at (o := 1) HK.out rfl
            have d2 := cell_at (o := 2) HK.out rfl
            have d3 := cell_at (o := 3) HK.out rfl
            have d4 := cell_at (o := 4) HK.out rfl
            have d5 := cell_at (o := 5) HK.out rfl
            have d6 := cell_at (o := 6) HK.out rfl
            have d7 := cell_at (o := 7) HK.out rfl
            have d8 := cell_at (o := 8) HK.out rfl
            have d9 := cell_at (o := 9) HK.out rfl
            have d10 := cell_at (o := 10) HK.out rfl
            have d11 := cell_at (o := 11) HK.out rfl
            have d12 := cell_at (o := 12) HK.out rfl
            have d13 := cell_at (o := 13) HK.out rfl
            simp only [List.getElem_toArray, List.getElem_cons_zero, List.getElem_cons_succ] at d0 d1 d2 d3 d4 d5 d6 d7 d8 d9 d10 d11 d12 d13
            have dz := fun o => free_at (o := o) HK.out
            have dl := HK.out.lt
            have hsf := store_fn HFN2.out
            have hQ9 := (GOne.mk HPT.out HBN.out HOF.out HFN2.out HB2.out.1 HB2.out.2.1 HB2.out.2.2.1 HB2.out.2.2.2 : GOne p 0 1 at_ sh x2 lo hi bg N2 g2 F2 y2 a2 fn2 M2 Y).put7o (o := 0) (.int .u64 y2) (.int .i64 a2.op) (.int .i64 a2.at_) (.int .u64 (U a2.a)) (.int .u64 (U a2.b)) fn2 (.pointer none)
            have hO9 := HOT.out.put7o (o := 0) (.int .u64 y2) (.int .i64 a2.op) (.int .i64 a2.at_) (.int .u64 (U a2.a)) (.int .u64 (U a2.b)) fn2 (.pointer none)
            have hI9 := HI.out.put7o (b := bg) (o := 0) (.int .u64 y2) (.int .i64 a2.op) (.int .i64 a2.at_) (.int .u64 (U a2.a)) (.int .u64 (U a2.b)) fn2 (.pointer none) hbgh (by omega) (by omega)
            have hK9 : Blk bg (.cells #[.int .u64 y2, .int .i64 a2.op, .int .i64 a2.at_, .int .u64 (U a2.a), .int .u64 (U a2.b), fn2, .pointer none, .int .u64 y1, .int .i64 a1.op, .int .i64 a1.at_, .int .u64 (U a1.a), .int .u64 (U a1.b), f1, .pointer none] 79) (put7o bg 0 (.int .u64 y2) (.int .i64 a2.op) (.int .i64 a2.at_) (.int .u64 (U a2.a)) (.int .u64 (U a2.b)) fn2 (.pointer none) Y) := put14a (.int .u64 y2) (.int .i64 a2.op) (.int .i64 a2.at_) (.int .u64 (U a2.a)) (.int .u64 (U a2.b)) fn2 (.pointer none) HK.out
            simp only [put7o, Nat.zero_add] at hQ9 hO9 hI9 hK9
            have HY := Lib.hid (And.intro hQ9 (And.intro hO9 (And.intro hI9 hK9)))
            clear hQ9 hO9 hI9 hK9 HPT HBN HOF HI HOT HK HZZ
            go_wp2
            obtain ⟨hQ9, hO9, hI9, hK9⟩ := HY.out
            exact ⟨⟨i + 1, N2, N1, M2, g2, g1, F2, F1, y2, y1, a2, a1, fn2, f1, by first | exact congrArg _ e2.out | rfl, by omega, hI9, HA.out.2.1, hK9, hQ9, hO9, by have := hm0.out; have := hm1.out; have := HC.out; omega, by have := hm0.out; have := hm1.out; have := HC.out; omega⟩, by simp [intOf]; omega⟩
          · simp only [pickL, List.map_cons, List.map_nil, List.getD_cons_zero, List.getD_cons_succ]
            go_wp2_with (go_at_call 21; refine (cap_int HI.out.m 0 1#64 (by omega) (by rw [HI.out.mg.n]; omega) (Lib.hid HI.out.mg.e)).mono ?_; rintro e XC ⟨rfl, hx⟩; refine Hid.out ?_)
            refine Lib.hid ?_
            replace HZ := Lib.hid (HZ.out.ext hx)
            replace HI := Lib.hid (HI.out.ext hx)
            replace HQ := Lib.hid (HQ.out.ext hx)
            replace HOT := Lib.hid (HOT.out.ext hx)
            replace HK := Lib.hid (HK.out.ext hx)
            replace hsx := Nat.le_trans hsx hx.size
            clear hx
            go_wp2
            refine mixQ_mk (off_of HZ.out) ?_
            refine ways_fork 11 (by kernel_rfl) ?_ (ways_act 7 (by kernel_rfl) ?_)
            · simp only [pickL, List.map_cons, List.map_nil, List.getD_cons_zero, List.getD_cons_succ]
              go_wp2
              have hxa := ext_alloc (.cells #[.int .u64 0, .int .i64 0, .int .i64 0, .int .u64 0, .int .u64 0, .nilFunc, .pointer none] 79) (ext_refl XC)
              replace HZ := Lib.hid (HZ.out.ext hxa)
              replace HI := Lib.hid (HI.out.ext hxa)
              replace HOT := Lib.hid (HOT.out.ext hxa)
              replace HK := Lib.hid (HK.out.ext hxa)
              replace HQ := Lib.hid (HQ.out.ext hxa)
              have hbx := Lib.hid (heap_at XC (.cells #[.int .u64 0, .int .i64 0, .int .i64 0, .int .u64 0, .int .u64 0, .nilFunc, .pointer none] 79) XC.heap.size rfl)
              have hlx : wr.heap.size ≤ XC.heap.size := hsx
              replace hsx : wr.heap.size ≤ (XC.alloc (.cells #[.int .u64 0, .int .i64 0, .int .i64 0, .int .u64 0, .int .u64 0, .nilFunc, .pointer none] 79)).heap.size := by simp; omega
              clear hxa
              refine mixQ_mk (off_of HZ.out) ?_
              generalize XC.alloc (.cells #[.int .u64 0, .int .i64 0, .int .i64 0, .int .u64 0, .int .u64 0, .nilFunc, .pointer none] 79) = XA at HZ HI hbx hsx HOT HK HQ ⊢
              generalize XC.heap.size = bx at hbx hlx ⊢
              refine ways_act 7 (by kernel_rfl) ?_
              simp only [pickL, List.map_cons, List.map_nil, List.getD_cons_zero, List.getD_cons_succ]
              go_wp2_with (go_at_call 32; refine (step_GOne HP.out HQ.out HI.out.m HI.out.mg (by omega) (by have := hpt.out; omega) (by omega) (by omega) hat0 hat1 hat2.out HWW.out).mono ?_; rintro e XS ⟨v2, F2, M2, N2, g2, bb2, rfl, hp, hbn, hsub, hm, hf, hA, hB, hC⟩; refine Hid.out ?_)
              refine Lib.hid ?_
              have hp2 := Lib.hid hp
              have hbn2 := Lib.hid hbn
              have hof2 := Lib.hid (fun j (hj : F2 j) => (hsub j hj).elim (fun h => (HQ.out.of j h)) (fun h => (⟨.inr (Nat.le_trans HI.out.m.top h), fun e => by omega⟩ : (j < lo ∨ hi ≤ j) ∧ j ≠ bg)))
              have HBO : Hid (∀ j, F2 j → j < XS.heap.size) := Lib.hid hbn
              have hnb : Hid (¬ F2 bx) := Lib.hid (fun h => (hsub _ h).elim (fun h => by have := HQF.out _ h; omega) (fun h => by have := heap_lt hbx.out; omega))
              replace HZ := Lib.hid (HZ.out.trans hf)
              replace HOT := Lib.hid (HOT.out.fr hf (hA.2.2 _ (by have := hpt.out; omega) (by omega)))
              replace HK := Lib.hid (HK.out.fr hf hbgh)
              replace HI := Lib.hid (HI.out.ran hm hf hA.1 (by omega) hlo1)
              have HA := Lib.hid hA
              have HB2 := Lib.hid hB
              have HC := Lib.hid hC
              clear hA hB hC
              replace hbx := Lib.hid ((hf.block _ (heap_lt hbx.out) (.inr (Nat.le_trans hwtop hlx))).trans hbx.out)
              replace hsx := Nat.le_trans hsx hf.size
              obtain ⟨y2, a2, fn2, rfl, hfn2⟩ := shU hp
              have HFN2 := Lib.hid hfn2
              clear hf hm hp hbn hsub hfn2 HQ
              go_wp2
              refine mixQ_mk (off_of HZ.out) ?_
              refine ways_reads [8, 9, 10] (by kernel_rfl) ?_
              simp only [pickL, List.map_cons, List.map_nil, List.getD_cons_zero, List.getD_cons_succ]
              repeat (go_big_quiet_step (fail))
              refine wpQuiet_nil ?_
              refine ways_act 12 (by kernel_rfl) ?_
              simp only [pickL, List.map_cons, List.map_nil, List.getD_cons_zero, List.getD_cons_succ]
              obtain ⟨k0, k1, k2, k3, k4, k5, k6, kz, kl⟩ := sev_of hbx.out
              have hB := put7_block (.int .u64 y2) (.int .i64 a2.op) (.int .i64 a2.at_) (.int .u64 (U a2.a)) (.int .u64 (U a2.b)) fn2 (.pointer none) hbx.out
              have hP := hp2.out.agr (Agr.of_put7 (b := bx) (.int .u64 y2) (.int .i64 a2.op) (.int .i64 a2.at_) (.int .u64 (U a2.a)) (.int .u64 (U a2.b)) fn2 (.pointer none) hnb.out)
              have hZZ := put7_frNew (b := bx) (.int .u64 y2) (.int .i64 a2.op) (.int .i64 a2.at_) (.int .u64 (U a2.a)) (.int .u64 (U a2.b)) fn2 (.pointer none) HZ.out hlx
              have hII := HI.out.put7 (b := bx) (.int .u64 y2) (.int .i64 a2.op) (.int .i64 a2.at_) (.int .u64 (U a2.a)) (.int .u64 (U a2.b)) fn2 (.pointer none) (Nat.le_trans hwtop hlx) (by omega) (by omega)
              have hSS : (put7 bx (.int .u64 y2) (.int .i64 a2.op) (.int .i64 a2.at_) (.int .u64 (U a2.a)) (.int .u64 (U a2.b)) fn2 (.pointer none) XS).heap.size = XS.heap.size := put7_size (.int .u64 y2) (.int .i64 a2.op) (.int .i64 a2.at_) (.int .u64 (U a2.a)) (.int .u64 (U a2.b)) fn2 (.pointer none)
              have hO0 := HOT.out.put7 (b := bx) (.int .u64 y2) (.int .i64 a2.op) (.int .i64 a2.at_) (.int .u64 (U a2.a)) (.int .u64 (U a2.b)) fn2 (.pointer none) (fun h => by have := HFB _ h; omega)
              have hO1 := HK.out.put7 (b' := bx) (.int .u64 y2) (.int .i64 a2.op) (.int .i64 a2.at_) (.int .u64 (U a2.a)) (.int .u64 (U a2.b)) fn2 (.pointer none) (by omega)
              rw [put7] at hB hP hZZ hII hSS hO0 hO1
              have HY := Lib.hid (And.intro hB (And.intro hP (And.intro hZZ (And.intro hII (And.intro hO0 (And.intro hO1 (hSS)))))))
              have HSW := Lib.hid (And.intro hbn2.out hsx)
              have hsf := store_fn HFN2.out
              clear hB hP hZZ hII hO0 hO1 hSS hp2 HZ HI hbx hbn2 HOT HK
              go_wp2
              obtain ⟨hB, hP, hZZ, hII, hO0, hO1, hSS⟩ := HY.out
              obtain ⟨hbn2, hsx2⟩ := HSW.out
              rw [← hSS] at hsx2
              have hbn3 : Bnd F2 _ := hbn2.ext (Nat.le_of_eq hSS.symm)
              clear HY HSW k0 k1 k2 k3 k4 k5 k6 kz kl hSS hsf
              generalize (World.setCell _ (⟨bx, 6, none⟩ : Addr) _) = Y at hB hP hZZ hII hsx2 hbn3 hO0 hO1 ⊢
              refine mixQ_mk (off_of hZZ) ?_
              have HB := Lib.hid hB
              have HPT := Lib.hid hP
              have HZZ := Lib.hid hZZ
              have HI := Lib.hid hII
              have HBN := Lib.hid hbn3
              have HOF := hof2
              have HOT := Lib.hid hO0
              have HK := Lib.hid hO1
              clear hB hP hZZ hII hbn3 hof2 hO0 hO1
              refine ways_reads [13] (by kernel_rfl) ?_
              simp only [pickL, List.map_cons, List.map_nil, List.getD_cons_zero, List.getD_cons_succ]
              repeat (go_big_quiet_step (fail))
              refine wpQuiet_nil ?_
              refine ways_end (by kernel_rfl) ?_
              obtain ⟨k0, k1, k2, k3, k4, k5, k6, kz, kl⟩ := sev_of HB.out
              have d0 := cell_at (o := 0) HK.out rfl
              have d1 := cell_at (o := 1) HK.out rfl
              have d2 := cell_at (o := 2) HK.out rfl
              have d3 := cell_at (o := 3) HK.out rfl
              have d4 := cell_at (o := 4) HK.out rfl
              have d5 := cell_at (o := 5) HK.out rfl
              have d6 := cell_at (o := 6) HK.out rfl
              have d7 := cell_at (o := 7) HK.out rfl
              have d8 := cell_at (o := 8) HK.out rfl
              have d9 := cell_at (o := 9) HK.out rfl
              have d10 := cell_at (o := 10) HK.out rfl
              have d11 := cell_at (o := 11) HK.out rfl
              have d12 := cell_at (o := 12) HK.out rfl
              have d13 := cell_at (o := 13) HK.out rfl
              simp only [List.getElem_toArray, List.getElem_cons_zero, List.getElem_cons_succ] at d0 d1 d2 d3 d4 d5 d6 d7 d8 d9 d10 d11 d12 d13
              have dz := fun o => free_at (o := o) HK.out
              have dl := HK.out.lt
              have hsf := store_fn HFN2.out
              have hQ9 := (GOne.mk HPT.out HBN.out HOF.out HFN2.out HB2.out.1 HB2.out.2.1 HB2.out.2.2.1 HB2.out.2.2.2 : GOne p 0 1 at_ sh x2 lo hi bg N2 g2 F2 y2 a2 fn2 M2 Y).put7o (o := 0) (.int .u64 y2) (.int .i64 a2.op) (.int .i64 a2.at_) (.int .u64 (U a2.a)) (.int .u64 (U a2.b)) fn2 (.pointer none)
              have hO9 := HOT.out.put7o (o := 0) (.int .u64 y2) (.int .i64 a2.op) (.int .i64 a2.at_) (.int .u64 (U a2.a)) (.int .u64 (U a2.b)) fn2 (.pointer none)
              have hI9 := HI.out.put7o (b := bg) (o := 0) (.int .u64 y2) (.int .i64 a2.op) (.int .i64 a2.at_) (.int .u64 (U a2.a)) (.int .u64 (U a2.b)) fn2 (.pointer none) hbgh (by omega) (by omega)
              have hK9 : Blk bg (.cells #[.int .u64 y2, .int .i64 a2.op, .int .i64 a2.at_, .int .u64 (U a2.a), .int .u64 (U a2.b), fn2, .pointer none, .int .u64 y1, .int .i64 a1.op, .int .i64 a1.at_, .int .u64 (U a1.a), .int .u64 (U a1.b), f1, .pointer none] 79) (put7o bg 0 (.int .u64 y2) (.int .i64 a2.op) (.int .i64 a2.at_) (.int .u64 (U a2.a)) (.int .u64 (U a2.b)) fn2 (.pointer none) Y) := put14a (.int .u64 y2) (.int .i64 a2.op) (.int .i64 a2.at_) (.int .u64 (U a2.a)) (.int .u64 (U a2.b)) fn2 (.pointer none) HK.out
              simp only [put7o, Nat.zero_add] at hQ9 hO9 hI9 hK9
              have HY := Lib.hid (And.intro hQ9 (And.intro hO9 (And.intro hI9 hK9)))
              clear hQ9 hO9 hI9 hK9 HPT HBN HOF HI HOT HK HZZ
              go_wp2
              obtain ⟨hQ9, hO9, hI9, hK9⟩ := HY.out
              exact ⟨⟨i + 1, N2, N1, M2, g2, g1, F2, F1, y2, y1, a2, a1, fn2, f1, by first | exact congrArg _ e2.out | rfl, by omega, hI9, HA.out.2.1, hK9, hQ9, hO9, by have := hm0.out; have := hm1.out; have := HC.out; omega, by have := hm0.out; have := hm1.out; have := HC.out; omega⟩, by simp [intOf]; omega⟩
            · simp only [pickL, List.map_cons, List.map_nil, List.getD_cons_zero, List.getD_cons_succ]
              go_wp2_with (go_at_call 32; refine (step_GOne HP.out HQ.out HI.out.m HI.out.mg (by omega) (by have := hpt.out; omega) (by omega) (by omega) hat0 hat1 hat2.out HWW.out).mono ?_; rintro e XS ⟨v2, F2, M2, N2, g2, bb2, rfl, hp, hbn, hsub, hm, hf, hA, hB, hC⟩; refine Hid.out ?_)
              refine Lib.hid ?_
              have hp2 := Lib.hid hp
              have hbn2 := Lib.hid hbn
              have hof2 := Lib.hid (fun j (hj : F2 j) => (hsub j hj).elim (fun h => (HQ.out.of j h)) (fun h => (⟨.inr (Nat.le_trans HI.out.m.top h), fun e => by omega⟩ : (j < lo ∨ hi ≤ j) ∧ j ≠ bg)))
              have HBO : Hid (∀ j, F2 j → j < XS.heap.size) := Lib.hid hbn
              replace HZ := Lib.hid (HZ.out.trans hf)
              replace HOT := Lib.hid (HOT.out.fr hf (hA.2.2 _ (by have := hpt.out; omega) (by omega)))
              replace HK := Lib.hid (HK.out.fr hf hbgh)
              replace HI := Lib.hid (HI.out.ran hm hf hA.1 (by omega) hlo1)
              have HA := Lib.hid hA
              have HB2 := Lib.hid hB
              have HC := Lib.hid hC
              clear hA hB hC
              replace hsx := Nat.le_trans hsx hf.size
              obtain ⟨y2, a2, fn2, rfl, hfn2⟩ := shU hp
              have HFN2 := Lib.hid hfn2
              clear hf hm hp hbn hsub hfn2 HQ
              go_wp2
              refine mixQ_mk (off_of HZ.out) ?_
              refine ways_reads [8, 9, 10] (by kernel_rfl) ?_
              simp only [pickL, List.map_cons, List.map_nil, List.getD_cons_zero, List.getD_cons_succ]
              repeat (go_big_quiet_step (fail))
              refine wpQuiet_nil ?_
              refine ways_act 11 (by kernel_rfl) ?_
              simp only [pickL, List.map_cons, List.map_nil, List.getD_cons_zero, List.getD_cons_succ]
              go_wp2
              have hxa := ext_alloc (.cells #[.int .u64 0, .int .i64 0, .int .i64 0, .int .u64 0, .int .u64 0, .nilFunc, .pointer none] 79) (ext_refl XS)
              replace HZ := Lib.hid (HZ.out.ext hxa)
              replace HI := Lib.hid (HI.out.ext hxa)
              replace HOT := Lib.hid (HOT.out.ext hxa)
              replace HK := Lib.hid (HK.out.ext hxa)
              replace hp2 := Lib.hid (hp2.out.agr (Agr.of_ext hxa hbn2.out))
              replace hbn2 := Lib.hid (hbn2.out.ext hxa.size)
              have hbx := Lib.hid (heap_at XS (.cells #[.int .u64 0, .int .i64 0, .int .i64 0, .int .u64 0, .int .u64 0, .nilFunc, .pointer none] 79) XS.heap.size rfl)
              have hlx : wr.heap.size ≤ XS.heap.size := hsx
              replace hsx : wr.heap.size ≤ (XS.alloc (.cells #[.int .u64 0, .int .i64 0, .int .i64 0, .int .u64 0, .int .u64 0, .nilFunc, .pointer none] 79)).heap.size := by simp; omega
              have hnb : Hid (¬ F2 XS.heap.size) := Lib.hid (fun h => by have := HBO.out _ h; omega)
              clear hxa
              refine mixQ_mk (off_of HZ.out) ?_
              generalize XS.alloc (.cells #[.int .u64 0, .int .i64 0, .int .i64 0, .int .u64 0, .int .u64 0, .nilFunc, .pointer none] 79) = XA at HZ HI hbx hsx HOT HK hp2 hbn2 ⊢
              generalize XS.heap.size = bx at hbx hlx hnb ⊢
              refine ways_act 12 (by kernel_rfl) ?_
              simp only [pickL, List.map_cons, List.map_nil, List.getD_cons_zero, List.getD_cons_succ]
              obtain ⟨k0, k1, k2, k3, k4, k5, k6, kz, kl⟩ := sev_of hbx.out
              have hB := put7_block (.int .u64 y2) (.int .i64 a2.op) (.int .i64 a2.at_) (.int .u64 (U a2.a)) (.int .u64 (U a2.b)) fn2 (.pointer none) hbx.out
              have hP := hp2.out.agr (Agr.of_put7 (b := bx) (.int .u64 y2) (.int .i64 a2.op) (.int .i64 a2.at_) (.int .u64 (U a2.a)) (.int .u64 (U a2.b)) fn2 (.pointer none) hnb.out)
              have hZZ := put7_frNew (b := bx) (.int .u64 y2) (.int .i64 a2.op) (.int .i64 a2.at_) (.int .u64 (U a2.a)) (.int .u64 (U a2.b)) fn2 (.pointer none) HZ.out hlx
              have hII := HI.out.put7 (b := bx) (.int .u64 y2) (.int .i64 a2.op) (.int .i64 a2.at_) (.int .u64 (U a2.a)) (.int .u64 (U a2.b)) fn2 (.pointer none) (Nat.le_trans hwtop hlx) (by omega) (by omega)
              have hSS : (put7 bx (.int .u64 y2) (.int .i64 a2.op) (.int .i64 a2.at_) (.int .u64 (U a2.a)) (.int .u64 (U a2.b)) fn2 (.pointer none) XA).heap.size = XA.heap.size := put7_size (.int .u64 y2) (.int .i64 a2.op) (.int .i64 a2.at_) (.int .u64 (U a2.a)) (.int .u64 (U a2.b)) fn2 (.pointer none)
              have hO0 := HOT.out.put7 (b := bx) (.int .u64 y2) (.int .i64 a2.op) (.int .i64 a2.at_) (.int .u64 (U a2.a)) (.int .u64 (U a2.b)) fn2 (.pointer none) (fun h => by have := HFB _ h; omega)
              have hO1 := HK.out.put7 (b' := bx) (.int .u64 y2) (.int .i64 a2.op) (.int .i64 a2.at_) (.int .u64 (U a2.a)) (.int .u64 (U a2.b)) fn2 (.pointer none) (by omega)
              rw [put7] at hB hP hZZ hII hSS hO0 hO1
              have HY := Lib.hid (And.intro hB (And.intro hP (And.intro hZZ (And.intro hII (And.intro hO0 (And.intro hO1 (hSS)))))))
              have HSW := Lib.hid (And.intro hbn2.out hsx)
              have hsf := store_fn HFN2.out
              clear hB hP hZZ hII hO0 hO1 hSS hp2 HZ HI hbx hbn2 HOT HK
              go_wp2
              obtain ⟨hB, hP, hZZ, hII, hO0, hO1, hSS⟩ := HY.out
              obtain ⟨hbn2, hsx2⟩ := HSW.out
              rw [← hSS] at hsx2
              have hbn3 : Bnd F2 _ := hbn2.ext (Nat.le_of_eq hSS.symm)
              clear HY HSW k0 k1 k2 k3 k4 k5 k6 kz kl hSS hsf
              generalize (World.setCell _ (⟨bx, 6, none⟩ : Addr) _) = Y at hB hP hZZ hII hsx2 hbn3 hO0 hO1 ⊢
              refine mixQ_mk (off_of hZZ) ?_
              have HB := Lib.hid hB
              have HPT := Lib.hid hP
              have HZZ := Lib.hid hZZ
              have HI := Lib.hid hII
              have HBN := Lib.hid hbn3
              have HOF := hof2
              have HOT := Lib.hid hO0
              have HK := Lib.hid hO1
              clear hB hP hZZ hII hbn3 hof2 hO0 hO1
              refine ways_reads [13] (by kernel_rfl) ?_
              simp only [pickL, List.map_cons, List.map_nil, List.getD_cons_zero, List.getD_cons_succ]
              repeat (go_big_quiet_step (fail))
              refine wpQuiet_nil ?_
              refine ways_end (by kernel_rfl) ?_
              obtain ⟨k0, k1, k2, k3, k4, k5, k6, kz, kl⟩ := sev_of HB.out
              have d0 := cell_at (o := 0) HK.out rfl
              have d1 := cell_at (o := 1) HK.out rfl
              have d2 := cell_at (o := 2) HK.out rfl
              have d3 := cell_at (o := 3) HK.out rfl
              have d4 := cell_at (o := 4) HK.out rfl
              have d5 := cell_at (o := 5) HK.out rfl
              have d6 := cell_at (o := 6) HK.out rfl
              have d7 := cell_at (o := 7) HK.out rfl
              have d8 := cell_at (o := 8) HK.out rfl
              have d9 := cell_at (o := 9) HK.out rfl
              have d10 := cell_at (o := 10) HK.out rfl
              have d11 := cell_at (o := 11) HK.out rfl
              have d12 := cell_at (o := 12) HK.out rfl
              have d13 := cell_at (o := 13) HK.out rfl
              simp only [List.getElem_toArray, List.getElem_cons_zero, List.getElem_cons_succ] at d0 d1 d2 d3 d4 d5 d6 d7 d8 d9 d10 d11 d12 d13
              have dz := fun o => free_at (o := o) HK.out
              have dl := HK.out.lt
              have hsf := store_fn HFN2.out
              have hQ9 := (GOne.mk HPT.out HBN.out HOF.out HFN2.out HB2.out.1 HB2.out.2.1 HB2.out.2.2.1 HB2.out.2.2.2 : GOne p 0 1 at_ sh x2 lo hi bg N2 g2 F2 y2 a2 fn2 M2 Y).put7o (o := 0) (.int .u64 y2) (.int .i64 a2.op) (.int .i64 a2.at_) (.int .u64 (U a2.a)) (.int .u64 (U a2.b)) fn2 (.pointer none)
              have hO9 := HOT.out.put7o (o := 0) (.int .u64 y2) (.int .i64 a2.op) (.int .i64 a2.at_) (.int .u64 (U a2.a)) (.int .u64 (U a2.b)) fn2 (.pointer none)
              have hI9 := HI.out.put7o (b := bg) (o := 0) (.int .u64 y2) (.int .i64 a2.op) (.int .i64 a2.at_) (.int .u64 (U a2.a)) (.int .u64 (U a2.b)) fn2 (.pointer none) hbgh (by omega) (by omega)
              have hK9 : Blk bg (.cells #[.int .u64 y2, .int .i64 a2.op, .int .i64 a2.at_, .int .u64 (U a2.a), .int .u64 (U a2.b), fn2, .pointer none, .int .u64 y1, .int .i64 a1.op, .int .i64 a1.at_, .int .u64 (U a1.a), .int .u64 (U a1.b), f1, .pointer none] 79) (put7o bg 0 (.int .u64 y2) (.int .i64 a2.op) (.int .i64 a2.at_) (.int .u64 (U a2.a)) (.int .u64 (U a2.b)) fn2 (.pointer none) Y) := put14a (.int .u64 y2) (.int .i64 a2.op) (.int .i64 a2.at_) (.int .u64 (U a2.a)) (.int .u64 (U a2.b)) fn2 (.pointer none) HK.out
              simp only [put7o, Nat.zero_add] at hQ9 hO9 hI9 hK9
              have HY := Lib.hid (And.intro hQ9 (And.intro hO9 (And.intro hI9 hK9)))
              clear hQ9 hO9 hI9 hK9 HPT HBN HOF HI HOT HK HZZ
              go_wp2
              obtain ⟨hQ9, hO9, hI9, hK9⟩ := HY.out
              exact ⟨⟨i + 1, N2, N1, M2, g2, g1, F2, F1, y2, y1, a2, a1, fn2, f1, by first | exact congrArg _ e2.out | rfl, by omega, hI9, HA.out.2.1, hK9, hQ9, hO9, by have := hm0.out; have := hm1.out; have := HC.out; omega, by have := hm0.out; have := hm1.out; have := HC.out; omega⟩, by simp [intOf]; omega⟩
        · have hm2 : Int.tmod (i : Int) 2 = 1 := by rw [Int.tmod_eq_emod_of_nonneg (by omega)]; omega
          have HFB : ∀ j, F0 j → j < wr.heap.size := hF0.out
          have HOT := HG0
          have HQ0 := HG1
          clear HG0 HG1
          have d0 := cell_at (o := 0) HK.out rfl
          have d1 := cell_at (o := 1) HK.out rfl
          have d2 := cell_at (o := 2) HK.out rfl
          have d3 := cell_at (o := 3) HK.out rfl
          have d4 := cell_at (o := 4) HK.out rfl
          have d5 := cell_at (o := 5) HK.out rfl
          have d6 := cell_at (o := 6) HK.out rfl
          have d7 := cell_at (o := 7) HK.out rfl
          have d8 := cell_at (o := 8) HK.out rfl
          have d9 := cell_at (o := 9) HK.out rfl
          have d10 := cell_at (o := 10) HK.out rfl
          have d11 := cell_at (o := 11) HK.out rfl
          have d12 := cell_at (o := 12) HK.out rfl
          have d13 := cell_at (o := 13) HK.out rfl
          simp only [List.getElem_toArray, List.getElem_cons_zero, List.getElem_cons_succ] at d0 d1 d2 d3 d4 d5 d6 d7 d8 d9 d10 d11 d12 d13
          go_wp2
          refine wp_region_ways (fun x => ∃ s, x = off lo hi wr s) (by kernel_rfl) (off_of ((Fr.refl lo hi wr).drew)) ?_
          refine ways_reads [0, 1, 2, 3, 4, 5] (by kernel_rfl) ?_
          simp only [pickL, List.map_cons, List.map_nil, List.getD_cons_zero, List.getD_cons_succ]
          repeat (go_big_quiet_step (fail))
          refine wpQuiet_nil ?_
          have HZ := Lib.hid ((Fr.refl lo hi wr).drew)
          have HI := Lib.hid (HR.out.ext (ext_drew (ext_refl wr)))
          have HQ := Lib.hid (HQ0.out.ext (ext_drew (ext_refl wr)))
          have HQF := Lib.hid HQ0.out.bn
          replace HOT := Lib.hid (HOT.out.ext (ext_drew (ext_refl wr)))
          replace HK := Lib.hid (HK.out.ext (ext_drew (ext_refl wr)))
          have hsx : wr.heap.size ≤ wr.drew.heap.size := Nat.le_refl _
          have hwtop := HR.out.m.top
          clear HR HQ0 d0 d1 d2 d3 d4 d5 d6 d7 d8 d9 d10 d11 d12 d13
          generalize wr.drew = X at HZ HI HQ hsx HOT HK ⊢
          refine ways_fork 11 (by kernel_rfl) ?_ (ways_act 6 (by kernel_rfl) ?_)
          · simp only [pickL, List.map_cons, List.map_nil, List.getD_cons_zero, List.getD_cons_succ]
            go_wp2
            have hxa := ext_alloc (.cells #[.int .u64 0, .int .i64 0, .int .i64 0, .int .u64 0, .int .u64 0, .nilFunc, .pointer none] 79) (ext_refl X)
            replace HZ := Lib.hid (HZ.out.ext hxa)
            replace HI := Lib.hid (HI.out.ext hxa)
            replace HOT := Lib.hid (HOT.out.ext hxa)
            replace HK := Lib.hid (HK.out.ext hxa)
            replace HQ := Lib.hid (HQ.out.ext hxa)
            have hbx := Lib.hid (heap_at X (.cells #[.int .u64 0, .int .i64 0, .int .i64 0, .int .u64 0, .int .u64 0, .nilFunc, .pointer none] 79) X.heap.size rfl)
            have hlx : wr.heap.size ≤ X.heap.size := hsx
            replace hsx : wr.heap.size ≤ (X.alloc (.cells #[.int .u64 0, .int .i64 0, .int .i64 0, .int .u64 0, .int .u64 0, .nilFunc, .pointer none] 79)).heap.size := by simp; omega
            clear hxa
            refine mixQ_mk (off_of HZ.out) ?_
            generalize X.alloc (.cells #[.int .u64 0, .int .i64 0, .int .i64 0, .int .u64 0, .int .u64 0, .nilFunc, .pointer none] 79) = XA at HZ HI hbx hsx HOT HK HQ ⊢
            generalize X.heap.size = bx at hbx hlx ⊢
            refine ways_act 6 (by kernel_rfl) ?_
            simp only [pickL, List.map_cons, List.map_nil, List.getD_cons_zero, List.getD_cons_succ]
            go_wp2_with (go_at_call 21; refine (cap_int HI.out.m 0 1#64 (by omega) (by rw [HI.out.mg.n]; omega) (Lib.hid HI.out.mg.e)).mono ?_; rintro e XC ⟨rfl, hx⟩; refine Hid.out ?_)
            refine Lib.hid ?_
            replace HZ := Lib.hid (HZ.out.ext hx)
            replace HI := Lib.hid (HI.out.ext hx)
            replace HQ := Lib.hid (HQ.out.ext hx)
            replace HOT := Lib.hid (HOT.out.ext hx)
            replace HK := Lib.hid (HK.out.ext hx)
            replace hbx := Lib.hid ((hx.block _ (heap_lt hbx.out)).trans hbx.out)
            replace hsx := Nat.le_trans hsx hx.size
            clear hx
            go_wp2
            refine mixQ_mk (off_of HZ.out) ?_
            refine ways_act 7 (by kernel_rfl) ?_
            simp only [pickL, List.map_cons, List.map_nil, List.getD_cons_zero, List.getD_cons_succ]
            go_wp2_with (go_at_call 32; refine (step_GOne HP.out HQ.out HI.out.m HI.out.mg (by omega) (by have := hpt.out; omega) (by omega) (by omega) hat0 hat1 hat2.out HWW.out).mono ?_; rintro e XS ⟨v2, F2, M2, N2, g2, bb2, rfl, hp, hbn, hsub, hm, hf, hA, hB, hC⟩; refine Hid.out ?_)
            refine Lib.hid ?_
            have hp2 := Lib.hid hp
            have hbn2 := Lib.hid hbn
            have hof2 := Lib.hid (fun j (hj : F2 j) => (hsub j hj).elim (fun h => (HQ.out.of j h)) (fun h => (⟨.inr (Nat.le_trans HI.out.m.top h), fun e => by omega⟩ : (j < lo ∨ hi ≤ j) ∧ j ≠ bg)))
            have HBO : Hid (∀ j, F2 j → j < XS.heap.size) := Lib.hid hbn
            have hnb : Hid (¬ F2 bx) := Lib.hid (fun h => (hsub _ h).elim (fun h => by have := HQF.out _ h; omega) (fun h => by have := heap_lt hbx.out; omega))
            replace HZ := Lib.hid (HZ.out.trans hf)
            replace HOT := Lib.hid (HOT.out.fr hf (hA.2.2 _ (by have := hpt.out; omega) (by omega)))
            replace HK := Lib.hid (HK.out.fr hf hbgh)
            replace HI := Lib.hid (HI.out.ran hm hf hA.1 (by omega) hlo1)
            have HA := Lib.hid hA
            have HB2 := Lib.hid hB
            have HC := Lib.hid hC
            clear hA hB hC
            replace hbx := Lib.hid ((hf.block _ (heap_lt hbx.out) (.inr (Nat.le_trans hwtop hlx))).trans hbx.out)
            replace hsx := Nat.le_trans hsx hf.size
            obtain ⟨y2, a2, fn2, rfl, hfn2⟩ := shU hp
            have HFN2 := Lib.hid hfn2
            clear hf hm hp hbn hsub hfn2 HQ
            go_wp2
            refine mixQ_mk (off_of HZ.out) ?_
            refine ways_reads [8, 9, 10] (by kernel_rfl) ?_
            simp only [pickL, List.map_cons, List.map_nil, List.getD_cons_zero, List.getD_cons_succ]
            repeat (go_big_quiet_step (fail))
            refine wpQuiet_nil ?_
            refine ways_act 12 (by kernel_rfl) ?_
            simp only [pickL, List.map_cons, List.map_nil, List.getD_cons_zero, List.getD_cons_succ]
            obtain ⟨k0, k1, k2, k3, k4, k5, k6, kz, kl⟩ := sev_of hbx.out
            have hB := put7_block (.int .u64 y2) (.int .i64 a2.op) (.int .i64 a2.at_) (.int .u64 (U a2.a)) (.int .u64 (U a2.b)) fn2 (.pointer none) hbx.out
            have hP := hp2.out.agr (Agr.of_put7 (b := bx) (.int .u64 y2) (.int .i64 a2.op) (.int .i64 a2.at_) (.int .u64 (U a2.a)) (.int .u64 (U a2.b)) fn2 (.pointer none) hnb.out)
            have hZZ := put7_frNew (b := bx) (.int .u64 y2) (.int .i64 a2.op) (.int .i64 a2.at_) (.int .u64 (U a2.a)) (.int .u64 (U a2.b)) fn2 (.pointer none) HZ.out hlx
            have hII := HI.out.put7 (b := bx) (.int .u64 y2) (.int .i64 a2.op) (.int .i64 a2.at_) (.int .u64 (U a2.a)) (.int .u64 (U a2.b)) fn2 (.pointer none) (Nat.le_trans hwtop hlx) (by omega) (by omega)
            have hSS : (put7 bx (.int .u64 y2) (.int .i64 a2.op) (.int .i64 a2.at_) (.int .u64 (U a2.a)) (.int .u64 (U a2.b)) fn2 (.pointer none) XS).heap.size = XS.heap.size := put7_size (.int .u64 y2) (.int .i64 a2.op) (.int .i64 a2.at_) (.int .u64 (U a2.a)) (.int .u64 (U a2.b)) fn2 (.pointer none)
            have hO0 := HOT.out.put7 (b := bx) (.int .u64 y2) (.int .i64 a2.op) (.int .i64 a2.at_) (.int .u64 (U a2.a)) (.int .u64 (U a2.b)) fn2 (.pointer none) (fun h => by have := HFB _ h; omega)
            have hO1 := HK.out.put7 (b' := bx) (.int .u64 y2) (.int .i64 a2.op) (.int .i64 a2.at_) (.int .u64 (U a2.a)) (.int .u64 (U a2.b)) fn2 (.pointer none) (by omega)
            rw [put7] at hB hP hZZ hII hSS hO0 hO1
            have HY := Lib.hid (And.intro hB (And.intro hP (And.intro hZZ (And.intro hII (And.intro hO0 (And.intro hO1 (hSS)))))))
            have HSW := Lib.hid (And.intro hbn2.out hsx)
            have hsf := store_fn HFN2.out
            clear hB hP hZZ hII hO0 hO1 hSS hp2 HZ HI hbx hbn2 HOT HK
            go_wp2
            obtain ⟨hB, hP, hZZ, hII, hO0, hO1, hSS⟩ := HY.out
            obtain ⟨hbn2, hsx2⟩ := HSW.out
            rw [← hSS] at hsx2
            have hbn3 : Bnd F2 _ := hbn2.ext (Nat.le_of_eq hSS.symm)
            clear HY HSW k0 k1 k2 k3 k4 k5 k6 kz kl hSS hsf
            generalize (World.setCell _ (⟨bx, 6, none⟩ : Addr) _) = Y at hB hP hZZ hII hsx2 hbn3 hO0 hO1 ⊢
            refine mixQ_mk (off_of hZZ) ?_
            have HB := Lib.hid hB
            have HPT := Lib.hid hP
            have HZZ := Lib.hid hZZ
            have HI := Lib.hid hII
            have HBN := Lib.hid hbn3
            have HOF := hof2
            have HOT := Lib.hid hO0
            have HK := Lib.hid hO1
            clear hB hP hZZ hII hbn3 hof2 hO0 hO1
            refine ways_reads [13] (by kernel_rfl) ?_
            simp only [pickL, List.map_cons, List.map_nil, List.getD_cons_zero, List.getD_cons_succ]
            repeat (go_big_quiet_step (fail))
            refine wpQuiet_nil ?_
            refine ways_end (by kernel_rfl) ?_
            obtain ⟨k0, k1, k2, k3, k4, k5, k6, kz, kl⟩ := sev_of HB.out
            have d0 := cell_at (o := 0) HK.out rfl
            have d1 := cell_at (o := 1) HK.out rfl
            have d2 := cell_at (o := 2) HK.out rfl
            have d3 := cell_at (o := 3) HK.out rfl
            have d4 := cell_at (o := 4) HK.out rfl
            have d5 := cell_at (o := 5) HK.out rfl
            have d6 := cell_at (o := 6) HK.out rfl
            have d7 := cell_at (o := 7) HK.out rfl
            have d8 := cell_at (o := 8) HK.out rfl
            have d9 := cell_at (o := 9) HK.out rfl
            have d10 := cell_at (o := 10) HK.out rfl
            have d11 := cell_at (o := 11) HK.out rfl
            have d12 := cell_at (o := 12) HK.out rfl
            have d13 := cell_at (o := 13) HK.out rfl
            simp only [List.getElem_toArray, List.getElem_cons_zero, List.getElem_cons_succ] at d0 d1 d2 d3 d4 d5 d6 d7 d8 d9 d10 d11 d12 d13
            have dz := fun o => free_at (o := o) HK.out
            have dl := HK.out.lt
            have hsf := store_fn HFN2.out
            have hQ9 := (GOne.mk HPT.out HBN.out HOF.out HFN2.out HB2.out.1 HB2.out.2.1 HB2.out.2.2.1 HB2.out.2.2.2 : GOne p 1 2 at_ sh x2 lo hi bg N2 g2 F2 y2 a2 fn2 M2 Y).put7o (o := 7) (.int .u64 y2) (.int .i64 a2.op) (.int .i64 a2.at_) (.int .u64 (U a2.a)) (.int .u64 (U a2.b)) fn2 (.pointer none)
            have hO9 := HOT.out.put7o (o := 7) (.int .u64 y2) (.int .i64 a2.op) (.int .i64 a2.at_) (.int .u64 (U a2.a)) (.int .u64 (U a2.b)) fn2 (.pointer none)
            have hI9 := HI.out.put7o (b := bg) (o := 7) (.int .u64 y2) (.int .i64 a2.op) (.int .i64 a2.at_) (.int .u64 (U a2.a)) (.int .u64 (U a2.b)) fn2 (.pointer none) hbgh (by omega) (by omega)
            have hK9 : Blk bg (.cells #[.int .u64 y0, .int .i64 a0.op, .int .i64 a0.at_, .int .u64 (U a0.a), .int .u64 (U a0.b), f0, .pointer none, .int .u64 y2, .int .i64 a2.op, .int .i64 a2.at_, .int .u64 (U a2.a), .int .u64 (U a2.b), fn2, .pointer none] 79) (put7o bg 7 (.int .u64 y2) (.int .i64 a2.op) (.int .i64 a2.at_) (.int .u64 (U a2.a)) (.int .u64 (U a2.b)) fn2 (.pointer none) Y) := put14b (.int .u64 y2) (.int .i64 a2.op) (.int .i64 a2.at_) (.int .u64 (U a2.a)) (.int .u64 (U a2.b)) fn2 (.pointer none) HK.out
            simp only [put7o, Nat.reduceAdd] at hQ9 hO9 hI9 hK9
            have HY := Lib.hid (And.intro hQ9 (And.intro hO9 (And.intro hI9 hK9)))
            clear hQ9 hO9 hI9 hK9 HPT HBN HOF HI HOT HK HZZ
            go_wp2
            obtain ⟨hQ9, hO9, hI9, hK9⟩ := HY.out
            exact ⟨⟨i + 1, N0, N2, M2, g0, g2, F0, F2, y0, y2, a0, a2, f0, fn2, by first | exact congrArg _ e2.out | rfl, by omega, hI9, HA.out.2.1, hK9, hO9, hQ9, by have := hm0.out; have := hm1.out; have := HC.out; omega, by have := hm0.out; have := hm1.out; have := HC.out; omega⟩, by simp [intOf]; omega⟩
          · simp only [pickL, List.map_cons, List.map_nil, List.getD_cons_zero, List.getD_cons_succ]
            go_wp2_with (go_at_call 21; refine (cap_int HI.out.m 0 1#64 (by omega) (by rw [HI.out.mg.n]; omega) (Lib.hid HI.out.mg.e)).mono ?_; rintro e XC ⟨rfl, hx⟩; refine Hid.out ?_)
            refine Lib.hid ?_
            replace HZ := Lib.hid (HZ.out.ext hx)
            replace HI := Lib.hid (HI.out.ext hx)
            replace HQ := Lib.hid (HQ.out.ext hx)
            replace HOT := Lib.hid (HOT.out.ext hx)
            replace HK := Lib.hid (HK.out.ext hx)
            replace hsx := Nat.le_trans hsx hx.size
            clear hx
            go_wp2
            refine mixQ_mk (off_of HZ.out) ?_
            refine ways_fork 11 (by kernel_rfl) ?_ (ways_act 7 (by kernel_rfl) ?_)
            · simp only [pickL, List.map_cons, List.map_nil, List.getD_cons_zero, List.getD_cons_succ]
              go_wp2
              have hxa := ext_alloc (.cells #[.int .u64 0, .int .i64 0, .int .i64 0, .int .u64 0, .int .u64 0, .nilFunc, .pointer none] 79) (ext_refl XC)
              replace HZ := Lib.hid (HZ.out.ext hxa)
              replace HI := Lib.hid (HI.out.ext hxa)
              replace HOT := Lib.hid (HOT.out.ext hxa)
              replace HK := Lib.hid (HK.out.ext hxa)
              replace HQ := Lib.hid (HQ.out.ext hxa)
              have hbx := Lib.hid (heap_at XC (.cells #[.int .u64 0, .int .i64 0, .int .i64 0, .int .u64 0, .int .u64 0, .nilFunc, .pointer none] 79) XC.heap.size rfl)
              have hlx : wr.heap.size ≤ XC.heap.size := hsx
              replace hsx : wr.heap.size ≤ (XC.alloc (.cells #[.int .u64 0, .int .i64 0, .int .i64 0, .int .u64 0, .int .u64 0, .nilFunc, .pointer none] 79)).heap.size := by simp; omega
              clear hxa
              refine mixQ_mk (off_of HZ.out) ?_
              generalize XC.alloc (.cells #[.int .u64 0, .int .i64 0, .int .i64 0, .int .u64 0, .int .u64 0, .nilFunc, .pointer none] 79) = XA at HZ HI hbx hsx HOT HK HQ ⊢
              generalize XC.heap.size = bx at hbx hlx ⊢
              refine ways_act 7 (by kernel_rfl) ?_
              simp only [pickL, List.map_cons, List.map_nil, List.getD_cons_zero, List.getD_cons_succ]
              go_wp2_with (go_at_call 32; refine (step_GOne HP.out HQ.out HI.out.m HI.out.mg (by omega) (by have := hpt.out; omega) (by omega) (by omega) hat0 hat1 hat2.out HWW.out).mono ?_; rintro e XS ⟨v2, F2, M2, N2, g2, bb2, rfl, hp, hbn, hsub, hm, hf, hA, hB, hC⟩; refine Hid.out ?_)
              refine Lib.hid ?_
              have hp2 := Lib.hid hp
              have hbn2 := Lib.hid hbn
              have hof2 := Lib.hid (fun j (hj : F2 j) => (hsub j hj).elim (fun h => (HQ.out.of j h)) (fun h => (⟨.inr (Nat.le_trans HI.out.m.top h), fun e => by omega⟩ : (j < lo ∨ hi ≤ j) ∧ j ≠ bg)))
              have HBO : Hid (∀ j, F2 j → j < XS.heap.size) := Lib.hid hbn
              have hnb : Hid (¬ F2 bx) := Lib.hid (fun h => (hsub _ h).elim (fun h => by have := HQF.out _ h; omega) (fun h => by have := heap_lt hbx.out; omega))
              replace HZ := Lib.hid (HZ.out.trans hf)
              replace HOT := Lib.hid (HOT.out.fr hf (hA.2.2 _ (by have := hpt.out; omega) (by omega)))
              replace HK := Lib.hid (HK.out.fr hf hbgh)
              replace HI := Lib.hid (HI.out.ran hm hf hA.1 (by omega) hlo1)
              have HA := Lib.hid hA
              have HB2 := Lib.hid hB
              have HC := Lib.hid hC
              clear hA hB hC
              replace hbx := Lib.hid ((hf.block _ (heap_lt hbx.out) (.inr (Nat.le_trans hwtop hlx))).trans hbx.out)
              replace hsx := Nat.le_trans hsx hf.size
              obtain ⟨y2, a2, fn2, rfl, hfn2⟩ := shU hp
              have HFN2 := Lib.hid hfn2
              clear hf hm hp hbn hsub hfn2 HQ
              go_wp2
              refine mixQ_mk (off_of HZ.out) ?_
              refine ways_reads [8, 9, 10] (by kernel_rfl) ?_
              simp only [pickL, List.map_cons, List.map_nil, List.getD_cons_zero, List.getD_cons_succ]
              repeat (go_big_quiet_step (fail))
              refine wpQuiet_nil ?_
              refine ways_act 12 (by kernel_rfl) ?_
              simp only [pickL, List.map_cons, List.map_nil, List.getD_cons_zero, List.getD_cons_succ]
              obtain ⟨k0, k1, k2, k3, k4, k5, k6, kz, kl⟩ := sev_of hbx.out
              have hB := put7_block (.int .u64 y2) (.int .i64 a2.op) (.int .i64 a2.at_) (.int .u64 (U a2.a)) (.int .u64 (U a2.b)) fn2 (.pointer none) hbx.out
              have hP := hp2.out.agr (Agr.of_put7 (b := bx) (.int .u64 y2) (.int .i64 a2.op) (.int .i64 a2.at_) (.int .u64 (U a2.a)) (.int .u64 (U a2.b)) fn2 (.pointer none) hnb.out)
              have hZZ := put7_frNew (b := bx) (.int .u64 y2) (.int .i64 a2.op) (.int .i64 a2.at_) (.int .u64 (U a2.a)) (.int .u64 (U a2.b)) fn2 (.pointer none) HZ.out hlx
              have hII := HI.out.put7 (b := bx) (.int .u64 y2) (.int .i64 a2.op) (.int .i64 a2.at_) (.int .u64 (U a2.a)) (.int .u64 (U a2.b)) fn2 (.pointer none) (Nat.le_trans hwtop hlx) (by omega) (by omega)
              have hSS : (put7 bx (.int .u64 y2) (.int .i64 a2.op) (.int .i64 a2.at_) (.int .u64 (U a2.a)) (.int .u64 (U a2.b)) fn2 (.pointer none) XS).heap.size = XS.heap.size := put7_size (.int .u64 y2) (.int .i64 a2.op) (.int .i64 a2.at_) (.int .u64 (U a2.a)) (.int .u64 (U a2.b)) fn2 (.pointer none)
              have hO0 := HOT.out.put7 (b := bx) (.int .u64 y2) (.int .i64 a2.op) (.int .i64 a2.at_) (.int .u64 (U a2.a)) (.int .u64 (U a2.b)) fn2 (.pointer none) (fun h => by have := HFB _ h; omega)
              have hO1 := HK.out.put7 (b' := bx) (.int .u64 y2) (.int .i64 a2.op) (.int .i64 a2.at_) (.int .u64 (U a2.a)) (.int .u64 (U a2.b)) fn2 (.pointer none) (by omega)
              rw [put7] at hB hP hZZ hII hSS hO0 hO1
              have HY := Lib.hid (And.intro hB (And.intro hP (And.intro hZZ (And.intro hII (And.intro hO0 (And.intro hO1 (hSS)))))))
              have HSW := Lib.hid (And.intro hbn2.out hsx)
              have hsf := store_fn HFN2.out
              clear hB hP hZZ hII hO0 hO1 hSS hp2 HZ HI hbx hbn2 HOT HK
              go_wp2
              obtain ⟨hB, hP, hZZ, hII, hO0, hO1, hSS⟩ := HY.out
              obtain ⟨hbn2, hsx2⟩ := HSW.out
              rw [← hSS] at hsx2
              have hbn3 : Bnd F2 _ := hbn2.ext (Nat.le_of_eq hSS.symm)
              clear HY HSW k0 k1 k2 k3 k4 k5 k6 kz kl hSS hsf
              generalize (World.setCell _ (⟨bx, 6, none⟩ : Addr) _) = Y at hB hP hZZ hII hsx2 hbn3 hO0 hO1 ⊢
              refine mixQ_mk (off_of hZZ) ?_
              have HB := Lib.hid hB
              have HPT := Lib.hid hP
              have HZZ := Lib.hid hZZ
              have HI := Lib.hid hII
              have HBN := Lib.hid hbn3
              have HOF := hof2
              have HOT := Lib.hid hO0
              have HK := Lib.hid hO1
              clear hB hP hZZ hII hbn3 hof2 hO0 hO1
              refine ways_reads [13] (by kernel_rfl) ?_
              simp only [pickL, List.map_cons, List.map_nil, List.getD_cons_zero, List.getD_cons_succ]
              repeat (go_big_quiet_step (fail))
              refine wpQuiet_nil ?_
              refine ways_end (by kernel_rfl) ?_
              obtain ⟨k0, k1, k2, k3, k4, k5, k6, kz, kl⟩ := sev_of HB.out
              have d0 := cell_at (o := 0) HK.out rfl
              have d1 := cell_at (o := 1) HK.out rfl
              have d2 := cell_at (o := 2) HK.out rfl
              have d3 := cell_at (o := 3) HK.out rfl
              have d4 := cell_at (o := 4) HK.out rfl
              have d5 := cell_at (o := 5) HK.out rfl
              have d6 := cell_at (o := 6) HK.out rfl
              have d7 := cell_at (o := 7) HK.out rfl
              have d8 := cell_at (o := 8) HK.out rfl
              have d9 := cell_at (o := 9) HK.out rfl
              have d10 := cell_at (o := 10) HK.out rfl
              have d11 := cell_at (o := 11) HK.out rfl
              have d12 := cell_at (o := 12) HK.out rfl
              have d13 := cell_at (o := 13) HK.out rfl
              simp only [List.getElem_toArray, List.getElem_cons_zero, List.getElem_cons_succ] at d0 d1 d2 d3 d4 d5 d6 d7 d8 d9 d10 d11 d12 d13
              have dz := fun o => free_at (o := o) HK.out
              have dl := HK.out.lt
              have hsf := store_fn HFN2.out
              have hQ9 := (GOne.mk HPT.out HBN.out HOF.out HFN2.out HB2.out.1 HB2.out.2.1 HB2.out.2.2.1 HB2.out.2.2.2 : GOne p 1 2 at_ sh x2 lo hi bg N2 g2 F2 y2 a2 fn2 M2 Y).put7o (o := 7) (.int .u64 y2) (.int .i64 a2.op) (.int .i64 a2.at_) (.int .u64 (U a2.a)) (.int .u64 (U a2.b)) fn2 (.pointer none)
              have hO9 := HOT.out.put7o (o := 7) (.int .u64 y2) (.int .i64 a2.op) (.int .i64 a2.at_) (.int .u64 (U a2.a)) (.int .u64 (U a2.b)) fn2 (.pointer none)
              have hI9 := HI.out.put7o (b := bg) (o := 7) (.int .u64 y2) (.int .i64 a2.op) (.int .i64 a2.at_) (.int .u64 (U a2.a)) (.int .u64 (U a2.b)) fn2 (.pointer none) hbgh (by omega) (by omega)
              have hK9 : Blk bg (.cells #[.int .u64 y0, .int .i64 a0.op, .int .i64 a0.at_, .int .u64 (U a0.a), .int .u64 (U a0.b), f0, .pointer none, .int .u64 y2, .int .i64 a2.op, .int .i64 a2.at_, .int .u64 (U a2.a), .int .u64 (U a2.b), fn2, .pointer none] 79) (put7o bg 7 (.int .u64 y2) (.int .i64 a2.op) (.int .i64 a2.at_) (.int .u64 (U a2.a)) (.int .u64 (U a2.b)) fn2 (.pointer none) Y) := put14b (.int .u64 y2) (.int .i64 a2.op) (.int .i64 a2.at_) (.int .u64 (U a2.a)) (.int .u64 (U a2.b)) fn2 (.pointer none) HK.out
              simp only [put7o, Nat.reduceAdd] at hQ9 hO9 hI9 hK9
              have HY := Lib.hid (And.intro hQ9 (And.intro hO9 (And.intro hI9 hK9)))
              clear hQ9 hO9 hI9 hK9 HPT HBN HOF HI HOT HK HZZ
              go_wp2
              obtain ⟨hQ9, hO9, hI9, hK9⟩ := HY.out
              exact ⟨⟨i + 1, N0, N2, M2, g0, g2, F0, F2, y0, y2, a0, a2, f0, fn2, by first | exact congrArg _ e2.out | rfl, by omega, hI9, HA.out.2.1, hK9, hO9, hQ9, by have := hm0.out; have := hm1.out; have := HC.out; omega, by have := hm0.out; have := hm1.out; have := HC.out; omega⟩, by simp [intOf]; omega⟩
            · simp only [pickL, List.map_cons, List.map_nil, List.getD_cons_zero, List.getD_cons_succ]
              go_wp2_with (go_at_call 32; refine (step_GOne HP.out HQ.out HI.out.m HI.out.mg (by omega) (by have := hpt.out; omega) (by omega) (by omega) hat0 hat1 hat2.out HWW.out).mono ?_; rintro e XS ⟨v2, F2, M2, N2, g2, bb2, rfl, hp, hbn, hsub, hm, hf, hA, hB, hC⟩; refine Hid.out ?_)
              refine Lib.hid ?_
              have hp2 := Lib.hid hp
              have hbn2 := Lib.hid hbn
              have hof2 := Lib.hid (fun j (hj : F2 j) => (hsub j hj).elim (fun h => (HQ.out.of j h)) (fun h => (⟨.inr (Nat.le_trans HI.out.m.top h), fun e => by omega⟩ : (j < lo ∨ hi ≤ j) ∧ j ≠ bg)))
              have HBO : Hid (∀ j, F2 j → j < XS.heap.size) := Lib.hid hbn
              replace HZ := Lib.hid (HZ.out.trans hf)
              replace HOT := Lib.hid (HOT.out.fr hf (hA.2.2 _ (by have := hpt.out; omega) (by omega)))
              replace HK := Lib.hid (HK.out.fr hf hbgh)
              replace HI := Lib.hid (HI.out.ran hm hf hA.1 (by omega) hlo1)
              have HA := Lib.hid hA
              have HB2 := Lib.hid hB
              have HC := Lib.hid hC
              clear hA hB hC
              replace hsx := Nat.le_trans hsx hf.size
              obtain ⟨y2, a2, fn2, rfl, hfn2⟩ := shU hp
              have HFN2 := Lib.hid hfn2
              clear hf hm hp hbn hsub hfn2 HQ
              go_wp2
              refine mixQ_mk (off_of HZ.out) ?_
              refine ways_reads [8, 9, 10] (by kernel_rfl) ?_
              simp only [pickL, List.map_cons, List.map_nil, List.getD_cons_zero, List.getD_cons_succ]
              repeat (go_big_quiet_step (fail))
              refine wpQuiet_nil ?_
              refine ways_act 11 (by kernel_rfl) ?_
              simp only [pickL, List.map_cons, List.map_nil, List.getD_cons_zero, List.getD_cons_succ]
              go_wp2
              have hxa := ext_alloc (.cells #[.int .u64 0, .int .i64 0, .int .i64 0, .int .u64 0, .int .u64 0, .nilFunc, .pointer none] 79) (ext_refl XS)
              replace HZ := Lib.hid (HZ.out.ext hxa)
              replace HI := Lib.hid (HI.out.ext hxa)
              replace HOT := Lib.hid (HOT.out.ext hxa)
              replace HK := Lib.hid (HK.out.ext hxa)
              replace hp2 := Lib.hid (hp2.out.agr (Agr.of_ext hxa hbn2.out))
              replace hbn2 := Lib.hid (hbn2.out.ext hxa.size)
              have hbx := Lib.hid (heap_at XS (.cells #[.int .u64 0, .int .i64 0, .int .i64 0, .int .u64 0, .int .u64 0, .nilFunc, .pointer none] 79) XS.heap.size rfl)
              have hlx : wr.heap.size ≤ XS.heap.size := hsx
              replace hsx : wr.heap.size ≤ (XS.alloc (.cells #[.int .u64 0, .int .i64 0, .int .i64 0, .int .u64 0, .int .u64 0, .nilFunc, .pointer none] 79)).heap.size := by simp; omega
              have hnb : Hid (¬ F2 XS.heap.size) := Lib.hid (fun h => by have := HBO.out _ h; omega)
              clear hxa
              refine mixQ_mk (off_of HZ.out) ?_
              generalize XS.alloc (.cells #[.int .u64 0, .int .i64 0, .int .i64 0, .int .u64 0, .int .u64 0, .nilFunc, .pointer none] 79) = XA at HZ HI hbx hsx HOT HK hp2 hbn2 ⊢
              generalize XS.heap.size = bx at hbx hlx hnb ⊢
              refine ways_act 12 (by kernel_rfl) ?_
              simp only [pickL, List.map_cons, List.map_nil, List.getD_cons_zero, List.getD_cons_succ]
              obtain ⟨k0, k1, k2, k3, k4, k5, k6, kz, kl⟩ := sev_of hbx.out
              have hB := put7_block (.int .u64 y2) (.int .i64 a2.op) (.int .i64 a2.at_) (.int .u64 (U a2.a)) (.int .u64 (U a2.b)) fn2 (.pointer none) hbx.out
              have hP := hp2.out.agr (Agr.of_put7 (b := bx) (.int .u64 y2) (.int .i64 a2.op) (.int .i64 a2.at_) (.int .u64 (U a2.a)) (.int .u64 (U a2.b)) fn2 (.pointer none) hnb.out)
              have hZZ := put7_frNew (b := bx) (.int .u64 y2) (.int .i64 a2.op) (.int .i64 a2.at_) (.int .u64 (U a2.a)) (.int .u64 (U a2.b)) fn2 (.pointer none) HZ.out hlx
              have hII := HI.out.put7 (b := bx) (.int .u64 y2) (.int .i64 a2.op) (.int .i64 a2.at_) (.int .u64 (U a2.a)) (.int .u64 (U a2.b)) fn2 (.pointer none) (Nat.le_trans hwtop hlx) (by omega) (by omega)
              have hSS : (put7 bx (.int .u64 y2) (.int .i64 a2.op) (.int .i64 a2.at_) (.int .u64 (U a2.a)) (.int .u64 (U a2.b)) fn2 (.pointer none) XA).heap.size = XA.heap.size := put7_size (.int .u64 y2) (.int .i64 a2.op) (.int .i64 a2.at_) (.int .u64 (U a2.a)) (.int .u64 (U a2.b)) fn2 (.pointer none)
              have hO0 := HOT.out.put7 (b := bx) (.int .u64 y2) (.int .i64 a2.op) (.int .i64 a2.at_) (.int .u64 (U a2.a)) (.int .u64 (U a2.b)) fn2 (.pointer none) (fun h => by have := HFB _ h; omega)
              have hO1 := HK.out.put7 (b' := bx) (.int .u64 y2) (.int .i64 a2.op) (.int .i64 a2.at_) (.int .u64 (U a2.a)) (.int .u64 (U a2.b)) fn2 (.pointer none) (by omega)
              rw [put7] at hB hP hZZ hII hSS hO0 hO1
              have HY := Lib.hid (And.intro hB (And.intro hP (And.intro hZZ (And.intro hII (And.intro hO0 (And.intro hO1 (hSS)))))))
              have HSW := Lib.hid (And.intro hbn2.out hsx)
              have hsf := store_fn HFN2.out
              clear hB hP hZZ hII hO0 hO1 hSS hp2 HZ HI hbx hbn2 HOT HK
              go_wp2
              obtain ⟨hB, hP, hZZ, hII, hO0, hO1, hSS⟩ := HY.out
              obtain ⟨hbn2, hsx2⟩ := HSW.out
              rw [← hSS] at hsx2
              have hbn3 : Bnd F2 _ := hbn2.ext (Nat.le_of_eq hSS.symm)
              clear HY HSW k0 k1 k2 k3 k4 k5 k6 kz kl hSS hsf
              generalize (World.setCell _ (⟨bx, 6, none⟩ : Addr) _) = Y at hB hP hZZ hII hsx2 hbn3 hO0 hO1 ⊢
              refine mixQ_mk (off_of hZZ) ?_
              have HB := Lib.hid hB
              have HPT := Lib.hid hP
              have HZZ := Lib.hid hZZ
              have HI := Lib.hid hII
              have HBN := Lib.hid hbn3
              have HOF := hof2
              have HOT := Lib.hid hO0
              have HK := Lib.hid hO1
              clear hB hP hZZ hII hbn3 hof2 hO0 hO1
              refine ways_reads [13] (by kernel_rfl) ?_
              simp only [pickL, List.map_cons, List.map_nil, List.getD_cons_zero, List.getD_cons_succ]
              repeat (go_big_quiet_step (fail))
              refine wpQuiet_nil ?_
              refine ways_end (by kernel_rfl) ?_
              obtain ⟨k0, k1, k2, k3, k4, k5, k6, kz, kl⟩ := sev_of HB.out
              have d0 := cell_at (o := 0) HK.out rfl
              have d1 := cell_at (o := 1) HK.out rfl
              have d2 := cell_at (o := 2) HK.out rfl
              have d3 := cell_at (o := 3) HK.out rfl
              have d4 := cell_at (o := 4) HK.out rfl
              have d5 := cell_at (o := 5) HK.out rfl
              have d6 := cell_at (o := 6) HK.out rfl
              have d7 := cell_at (o := 7) HK.out rfl
              have d8 := cell_at (o := 8) HK.out rfl
              have d9 := cell_at (o := 9) HK.out rfl
              have d10 := cell_at (o := 10) HK.out rfl
              have d11 := cell_at (o := 11) HK.out rfl
              have d12 := cell_at (o := 12) HK.out rfl
              have d13 := cell_at (o := 13) HK.out rfl
              simp only [List.getElem_toArray, List.getElem_cons_zero, List.getElem_cons_succ] at d0 d1 d2 d3 d4 d5 d6 d7 d8 d9 d10 d11 d12 d13
              have dz := fun o => free_at (o := o) HK.out
              have dl := HK.out.lt
              have hsf := store_fn HFN2.out
              have hQ9 := (GOne.mk HPT.out HBN.out HOF.out HFN2.out HB2.out.1 HB2.out.2.1 HB2.out.2.2.1 HB2.out.2.2.2 : GOne p 1 2 at_ sh x2 lo hi bg N2 g2 F2 y2 a2 fn2 M2 Y).put7o (o := 7) (.int .u64 y2) (.int .i64 a2.op) (.int .i64 a2.at_) (.int .u64 (U a2.a)) (.int .u64 (U a2.b)) fn2 (.pointer none)
              have hO9 := HOT.out.put7o (o := 7) (.int .u64 y2) (.int .i64 a2.op) (.int .i64 a2.at_) (.int .u64 (U a2.a)) (.int .u64 (U a2.b)) fn2 (.pointer none)
              have hI9 := HI.out.put7o (b := bg) (o := 7) (.int .u64 y2) (.int .i64 a2.op) (.int .i64 a2.at_) (.int .u64 (U a2.a)) (.int .u64 (U a2.b)) fn2 (.pointer none) hbgh (by omega) (by omega)
              have hK9 : Blk bg (.cells #[.int .u64 y0, .int .i64 a0.op, .int .i64 a0.at_, .int .u64 (U a0.a), .int .u64 (U a0.b), f0, .pointer none, .int .u64 y2, .int .i64 a2.op, .int .i64 a2.at_, .int .u64 (U a2.a), .int .u64 (U a2.b), fn2, .pointer none] 79) (put7o bg 7 (.int .u64 y2) (.int .i64 a2.op) (.int .i64 a2.at_) (.int .u64 (U a2.a)) (.int .u64 (U a2.b)) fn2 (.pointer none) Y) := put14b (.int .u64 y2) (.int .i64 a2.op) (.int .i64 a2.at_) (.int .u64 (U a2.a)) (.int .u64 (U a2.b)) fn2 (.pointer none) HK.out
              simp only [put7o, Nat.reduceAdd] at hQ9 hO9 hI9 hK9
              have HY := Lib.hid (And.intro hQ9 (And.intro hO9 (And.intro hI9 hK9)))
              clear hQ9 hO9 hI9 hK9 HPT HBN HOF HI HOT HK HZZ
              go_wp2
              obtain ⟨hQ9, hO9, hI9, hK9⟩ := HY.out
              exact ⟨⟨i + 1, N0, N2, M2, g0, g2, F0, F2, y0, y2, a0, a2, f0, fn2, by first | exact congrArg _ e2.out | rfl, by omega, hI9, HA.out.2.1, hK9, hO9, hQ9, by have := hm0.out; have := hm1.out; have := HC.out; omega, by have := hm0.out; have := hm1.out; have := HC.out; omega⟩, by simp [intOf]; omega⟩
    · have hnlt : ¬ (i : Int) < (ps.length : Int) + 8 := by omega
      have hg0 := mu_zero HG0.out.gw (by have := hm0.out; omega)
      have hg1 := mu_zero HG1.out.gw (by have := hm1.out; omega)
      subst hg0 hg1
      have hh0 : hzW p M (3 * 0 + 1 : Int).toNat = x2 >>> sh := by
        by_cases hz : x2 >>> sh = 0#64
        · rw [HG0.out.z hz, hz]
        · exact HG0.out.ok hz
      have hh1 : hzW p M (3 * 1 + 2 : Int).toNat = x2 >>> sh := by
        by_cases hz : x2 >>> sh = 0#64
        · rw [HG1.out.z hz, hz]
        · exact HG1.out.ok hz
      have hza0 := hzW_at HP.out M (t := 0) (s := 1) (by omega) (by have := hpt.out; omega) (by omega) (by omega)
      have hza1 := hzW_at HP.out M (t := 1) (s := 2) (by omega) (by have := hpt.out; omega) (by omega) (by omega)
      have hrg0 := haz_rg HP.out (t := 0) (s := 1) (by omega) (by have := hpt.out; omega) (by omega) (by omega)
      have hrg1 := haz_rg HP.out (t := 1) (s := 2) (by omega) (by have := hpt.out; omega) (by omega) (by omega)
      obtain ⟨pa, hpa⟩ : ∃ a, Hid (p.hazF 0 1 = a) := ⟨_, Lib.hid rfl⟩
      obtain ⟨pb, hpb⟩ : ∃ a, Hid (p.hazF 1 2 = a) := ⟨_, Lib.hid rfl⟩
      rw [hpa.out] at hza0 hrg0
      rw [hpb.out] at hza1 hrg1
      obtain ⟨nn, hnn⟩ : ∃ y, Hid (U (x2 >>> sh) - 1 = y) := ⟨_, Lib.hid rfl⟩
      have hN : ∀ W, Calls Try.prog 34 #[.int .u64 (U x2), .int .i64 (sh : Int)] W (Ret (.int .i64 nn) W) := fun W => by
        rw [← hnn.out]
        exact rnamed_any x2 sh hsh2 (by omega) W
      have hle : U (x2 >>> sh) ≤ U x2 := by
        rw [U_toNat, U_toNat, BitVec.toNat_ushiftRight]
        have h := Nat.shiftRight_le x2.toNat sh
        generalize x2.toNat >>> sh = q at h
        omega
      have hge : 0 ≤ U (x2 >>> sh) := by rw [U_toNat]; omega
      have hnn0 : -1 ≤ nn := by have := hnn.out; omega
      have hnn1 : nn < 1099511627776 := by have := hnn.out; omega
      have hpk0 : Hid (U (M.wd (0 : Int).toNat pa.toNat) = nn + 1) := Lib.hid (by
        have h1 : M.wd (0 : Int).toNat pa.toNat = x2 >>> sh := hza0.trans hh0
        rw [h1]
        have := hnn.out
        omega)
      have hpk1 : Hid (U (M.wd (0 : Int).toNat pb.toNat) = nn + 1) := Lib.hid (by
        have h1 : M.wd (0 : Int).toNat pb.toNat = x2 >>> sh := hza1.trans hh1
        rw [h1]
        have := hnn.out
        omega)
      have hr0 : (0 : Int) < M.n := by rw [HR.out.mg.n]; omega
      have hra : pa < M.sz (0 : Int).toNat := by show pa < (M.sz 0 : Int); rw [HR.out.mg.s]; omega
      have hrb : pb < M.sz (0 : Int).toNat := by show pb < (M.sz 0 : Int); rw [HR.out.mg.s]; omega
      have hra0 := hrg0.1
      have hrb0 := hrg1.1
      have HPT0 := Lib.hid HG0.out.pt
      have HPT1 := Lib.hid HG1.out.pt
      replace hN := Lib.hid hN
      clear hh0 hh1 hza0 hza1 hrg0 hrg1 hle hge HG0
      have d0 := cell_at (o := 0) HK.out rfl
      have d1 := cell_at (o := 1) HK.out rfl
      have d2 := cell_at (o := 2) HK.out rfl
      have d3 := cell_at (o := 3) HK.out rfl
      have d4 := cell_at (o := 4) HK.out rfl
      have d5 := cell_at (o := 5) HK.out rfl
      have d6 := cell_at (o := 6) HK.out rfl
      have d7 := cell_at (o := 7) HK.out rfl
      have d8 := cell_at (o := 8) HK.out rfl
      have d9 := cell_at (o := 9) HK.out rfl
      have d10 := cell_at (o := 10) HK.out rfl
      have d11 := cell_at (o := 11) HK.out rfl
      have d12 := cell_at (o := 12) HK.out rfl
      have d13 := cell_at (o := 13) HK.out rfl
      simp only [List.getElem_toArray, List.getElem_cons_zero, List.getElem_cons_succ] at d0 d1 d2 d3 d4 d5 d6 d7 d8 d9 d10 d11 d12 d13
      go_wp2_with (go_at_call 33; refine (over_U (gdT p 0 1 at_ sh N0 (.dn x2)) F0 _ _ HPT0.out (U x2) true (Lib.hid rfl) (Lib.hid rfl)).mono ?_; rintro e wa ⟨rfl, hx⟩; refine Hid.out ?_)
      refine Lib.hid ?_
      have HRa := Lib.hid (HR.out.ext hx)
      have HKa := Lib.hid (HK.out.ext hx)
      replace HPT1 := Lib.hid (HPT1.out.agr (Agr.of_ext hx HG1.out.bn))
      clear hx HR HK HG1 HPT0 d0 d1 d2 d3 d4 d5 d6 d7 d8 d9 d10 d11 d12 d13
      have d0 := cell_at (o := 0) HKa.out rfl
      have d1 := cell_at (o := 1) HKa.out rfl
      have d2 := cell_at (o := 2) HKa.out rfl
      have d3 := cell_at (o := 3) HKa.out rfl
      have d4 := cell_at (o := 4) HKa.out rfl
      have d5 := cell_at (o := 5) HKa.out rfl
      have d6 := cell_at (o := 6) HKa.out rfl
      have d7 := cell_at (o := 7) HKa.out rfl
      have d8 := cell_at (o := 8) HKa.out rfl
      have d9 := cell_at (o := 9) HKa.out rfl
      have d10 := cell_at (o := 10) HKa.out rfl
      have d11 := cell_at (o := 11) HKa.out rfl
      have d12 := cell_at (o := 12) HKa.out rfl
      have d13 := cell_at (o := 13) HKa.out rfl
      simp only [List.getElem_toArray, List.getElem_cons_zero, List.getElem_cons_succ] at d0 d1 d2 d3 d4 d5 d6 d7 d8 d9 d10 d11 d12 d13
      have hbgl2 := HKa.out.lt
      go_wp2_with (go_at_call 33; refine (over_U (gdT p 1 2 at_ sh N1 (.dn x2)) F1 _ _ HPT1.out (U x2) true (Lib.hid rfl) (Lib.hid rfl)).mono ?_; rintro e wb ⟨rfl, hx⟩; refine Hid.out ?_)
      refine Lib.hid ?_
      have HRb := Lib.hid (HRa.out.ext hx)
      clear hx HRa HKa HPT1 d0 d1 d2 d3 d4 d5 d6 d7 d8 d9 d10 d11 d12 d13
      go_wp2_with (go_at_call 34; refine (hN.out _).mono ?_; rintro e wn ⟨rfl, hx⟩; refine Hid.out ?_)
      refine Lib.hid ?_
      have HRc := Lib.hid (HRb.out.ext hx)
      clear hx HRb
      have ⟨c0, c1, c2, c3, c4, c5, lt⟩ := HRc.out.pb.plc
      go_wp2_with (go_at_call 27; refine (hazard_is p 0 1 _ pa hpa).mono ?_; rintro e wh ⟨rfl, hx⟩; refine Hid.out ?_)
      refine Lib.hid ?_
      have HRd := Lib.hid (HRc.out.ext hx)
      clear hx HRc c0 c1 c2 c3 c4 c5 lt
      go_wp2_with (go_at_call 26; refine (peek_int HRd.out.m 0 pa (nn + 1) (by omega) hr0 hra0 hra hpk0).mono ?_; rintro e wi ⟨rfl, hx⟩; refine Hid.out ?_)
      refine Lib.hid ?_
      have HRe := Lib.hid (HRd.out.ext hx)
      clear hx HRd
      have ⟨c0, c1, c2, c3, c4, c5, lt⟩ := HRe.out.pb.plc
      go_wp2_with (first
        | (go_at_call 27; refine (hazard_is p 1 2 _ pb hpb).mono ?_; rintro e wj ⟨rfl, hx⟩; have HRf := Lib.hid (HRe.out.ext hx); clear hx)
        | (go_at_call 26; refine (peek_int HRf.out.m 0 pb (nn + 1) (by omega) hr0 hrb0 hrb hpk1).mono ?_; rintro e wk ⟨rfl, hx⟩; have HRg := Lib.hid (HRf.out.ext hx); clear hx))
      go_ret
      exact Ret.bool (by simp) HRg.out.ex
end Go.Proofs.Ytkjbfhcgldgkaaa
