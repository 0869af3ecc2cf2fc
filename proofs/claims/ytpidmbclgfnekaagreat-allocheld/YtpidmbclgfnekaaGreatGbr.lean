/-
  The law AllocHeld, walked. Conditions: those of each theorem.
-/
import Derived.Test.YtpidmbclgfnekaaGreatGbq
namespace Go.Proofs.YtpidmbclgfnekaaGreat
open Go Go.RowKit

def AhRel (p : Pl) (s : Nat) (lo hi : Nat) (L : Lay) (w : World) (B ba : Nat) (m : Int) (vi : Value) (wr : World) : Prop := ∃ (i : Nat) (M : MS) (fl rt : List Int) (T : Nat) (sf : Int → St), vi = .int .i64 (i : Int) ∧ (i : Int) ≤ m ∧
  HBs p lo hi L B w [(ba, .cells #[.int .i64 0, .int .i64 0, .int .i64 0] 37)] M wr ∧ Hid (Hd1 i fl rt sf ∧ AIn p4h 0 M fl rt T sf (h4 s) ∧ T ≤ 10 * i + 1)
def AjRel (p : Pl) (lo hi : Nat) (L : Lay) (w : World) (B ba : Nat) (vs vi : Value) (wr : World) : Prop := ∃ (j : Nat) (seen : Bool) (M : MS) (fl rt : List Int) (T : Nat) (sf : Int → St), vs = .bool seen ∧ vi = .int .i64 (j : Int) ∧ j ≤ 4 ∧
  HBs p lo hi L B w [(ba, .cells #[.int .i64 0, .int .i64 0, .int .i64 0] 37)] M wr ∧ Hid (Hd2 j seen fl rt sf ∧ AIn p4h 0 M fl rt T sf (fun _ => 0#64) ∧ T ≤ 1000 + 10 * j)
set_option maxRecDepth 8000 in
set_option maxHeartbeats 4000000 in
theorem ahd_yes (turns slot : Int) (ht0 : 0 ≤ turns) (_ : turns < 256) (hs0 : 0 ≤ slot) (_ : slot < 256) (w : World) : Calls Tryz.prog 6 #[.int .u8 turns, .int .u8 slot] w (Ret (.bool true) w) := by
  obtain ⟨tt, htt⟩ : ∃ tt : Int, Hid (Int.tmod turns 60 = tt) := ⟨_, Lib.hid rfl⟩
  have htr : 0 ≤ tt ∧ tt < 60 := by
    have h1 := htt.out
    rw [Int.tmod_eq_emod_of_nonneg ht0] at h1
    omega
  obtain ⟨si, hss⟩ : ∃ si : Int, Hid (Int.tmod slot 3 = si) := ⟨_, Lib.hid rfl⟩
  have hsr : 0 ≤ si ∧ si < 3 := by
    have h1 := hss.out
    rw [Int.tmod_eq_emod_of_nonneg hs0] at h1
    omega
  have hL := fun W => laidZ_any p4h p4hok W
  have HL := Lib.hid hL
  clear hL
  go_enter Tryz.func6, Tryz.ntmps6
  go_wp2_with (go_at_call 8; refine (r12wake_any _).mono ?_; rintro e wA ⟨rfl, hxA⟩; refine Hid.out ?_)
  refine Lib.hid ?_
  replace hxA := Lib.hid hxA
  go_wp2_with (go_at_call 10; refine Hid.out ?_)
  refine Lib.hid ?_
  refine (HL.out _).mono ?_
  rintro e w1 ⟨lo, hi, L, M, rfl, hM, hF, hx, hlo⟩
  obtain ⟨B, hBB⟩ : ∃ b, Hid (wA.heap.size = b) := ⟨_, Lib.hid rfl⟩
  have hb0 : PBox B p4h w1 := (hx.block _ (by have := hBB.out; simp; omega)).trans (heap_at _ _ _ hBB.out.symm)
  have hlo1 : B < lo := by have := hBB.out; simp at hlo; omega
  have hwB : w.heap.size ≤ B := by have := hxA.out.size; have := hBB.out; omega
  have hE : Ext w w1 := ext_trans (ext_alloc _ hxA.out) hx
  have HA := Lib.hid (AIn.fresh p4hok hF.1 hF.2 (t := 0) (by omega) (show (0 : Int) < 2 by omega))
  have HI0 : HBs p4h lo hi L B w [] M w1 := HBs.of (HIn.mk hM hF.1.mg hE hb0)
  obtain ⟨M1, sf1, r1, g1, hbeg⟩ := hd_begin HA.out
  obtain ⟨p, hp⟩ : ∃ q, Hid (p4h = q) := ⟨_, Lib.hid rfl⟩
  rw [hp.out] at HI0 r1 g1
  have hok : p.ok := by rw [← hp.out]; exact p4hok
  have hpt : 1 < p.t := by rw [← hp.out]; decide
  have HP := Lib.hid hok
  have HI := Lib.hid HI0
  have HR1 := Lib.hid r1
  have HG1 := Lib.hid g1
  have HBG := Lib.hid hbeg
  rw [hBB.out]
  clear hM hF hx hlo hb0 hE HI0 hok HL hxA HA r1 g1 hbeg hBB
  have hhi := HI.out.m.top
  have ⟨c0, c1, c2, c3, c4, c5, lt⟩ := HI.out.pb.plc
  go_wp2_with (go_at_call 13; refine (new_PT p 0 0 2 _ HP.out (by omega)).mono ?_; rintro e w2 ⟨v1, F1, rfl, hx2, hp1, hbn1, hsub1⟩; refine Hid.out ?_)
  refine Lib.hid ?_
  have HOF1 := Lib.hid (fun j (hj : F1 j) => (hsub1 j hj).elim (fun h => h.elim) fun h => (.inr (Nat.le_trans HI.out.m.top h) : j < lo ∨ hi ≤ j))
  have HI2 := Lib.hid (HI.out.ext hx2)
  have HP1 := Lib.hid hp1
  have HBN1 := Lib.hid hbn1
  clear hx2 hp1 hbn1 hsub1
  go_wp2_with (go_at_call 14; refine (cap_int HI2.out.m 0 1#64 (by omega) (by rw [HI2.out.mg.n]; omega) (Lib.hid HI2.out.mg.e)).mono ?_; rintro e w3 ⟨rfl, hx3⟩; refine Hid.out ?_)
  refine Lib.hid ?_
  have HI3 := Lib.hid (HI2.out.ext hx3)
  replace HP1 := Lib.hid (HP1.out.agr (Agr.of_ext hx3 HBN1.out))
  replace HBN1 := Lib.hid (HBN1.out.ext hx3.size)
  clear hx3
  go_wp2_with (go_at_call 12; refine (runG_any HR1.out 99 (by omega) (by omega) F1 v1 w3 HP1.out HBN1.out HOF1.out HI3.out.m).mono ?_; rintro e w4 ⟨rfl, hm4, hf4⟩; refine Hid.out ?_)
  refine Lib.hid ?_
  have HI4 := Lib.hid (HI3.out.ran hm4 hf4 HG1.out (by omega) hlo1)
  clear hm4 hf4 HP1 HBN1 HOF1 HI HI2 HI3 HR1 c0 c1 c2 c3 c4 c5 lt
  go_upto_region 8 with (fail)
  have HJ := Lib.hid (HI4.out.new (.cells #[.int .i64 0, .int .i64 0, .int .i64 0] 37))
  clear HI4
  generalize w4.alloc (.cells #[.int .i64 0, .int .i64 0, .int .i64 0] 37) = w5 at HJ ⊢
  generalize w4.heap.size = ba at HJ ⊢
  have ⟨c0, c1, c2, c3, c4, c5, lt⟩ := HJ.out.pb.plc
  have hbx := (HJ.out.bx (ba, .cells #[.int .i64 0, .int .i64 0, .int .i64 0] 37) (by simp)).2
  have x0 := cell_at (o := 0) hbx rfl
  have x1 := cell_at (o := 1) hbx rfl
  have x2 := cell_at (o := 2) hbx rfl
  have xl := heap_lt hbx
  clear hbx
  have ess := hss.out
  have ews : wrap64 si = si := by unfold wrap64; omega
  go_wp2_with (go_at_call 30; refine (hset_PT p 1 si 0 (by omega) (by omega) _).mono ?_; rintro e w2 ⟨v1, F1, rfl, hx2, hp1, hbn1, hsub1⟩; refine Hid.out ?_)
  refine Lib.hid ?_
  have HOF1 := Lib.hid (fun j (hj : F1 j) => (hsub1 j hj).elim (fun h => h.elim) fun h => (.inr (Nat.le_trans HJ.out.m.top h) : j < lo ∨ hi ≤ j))
  have HJ2 := Lib.hid (HJ.out.ext hx2)
  have HP1 := Lib.hid hp1
  have HBN1 := Lib.hid hbn1
  clear hx2 hp1 hbn1 hsub1
  go_wp2_with (go_at_call 14; refine (cap_int HJ2.out.m 0 1#64 (by omega) (by rw [HJ2.out.mg.n]; omega) (Lib.hid HJ2.out.mg.e)).mono ?_; rintro e w3 ⟨rfl, hx3⟩; refine Hid.out ?_)
  refine Lib.hid ?_
  have HJ3 := Lib.hid (HJ2.out.ext hx3)
  replace HP1 := Lib.hid (HP1.out.agr (Agr.of_ext hx3 HBN1.out))
  replace HBN1 := Lib.hid (HBN1.out.ext hx3.size)
  clear hx3
  go_wp2_with (go_at_call 29; refine (runSetH p HP.out HJ3.out.mg 1 si (nameW 0) (by omega) (by omega) (by omega) (by omega) F1 v1 w3 HP1.out HBN1.out HOF1.out HJ3.out.m).mono ?_; rintro e w6 ⟨M2, rfl, hm4, hf4, hz4⟩; refine Hid.out ?_)
  refine Lib.hid ?_
  have HK := Lib.hid (HJ3.out.ran hm4 hf4 hz4.mg (by omega) hlo1)
  rw [← hp.out] at hz4
  clear ess ews hss
  obtain ⟨s, rfl⟩ : ∃ s : Nat, si = (s : Int) := ⟨si.toNat, by omega⟩
  replace hsr : s < 3 := by omega
  obtain ⟨M3, r3, a3, b3⟩ := HBG.out s M2 hsr hz4
  have HA3 := Lib.hid (And.intro b3 a3)
  have g3 := a3.fl.mg
  rw [hp.out] at r3 g3
  have HR3 := Lib.hid r3
  have HG3 := Lib.hid g3
  clear hm4 hf4 hz4 HP1 HBN1 HOF1 HJ HJ2 HJ3 HBG a3 b3 r3 g3 c0 c1 c2 c3 c4 c5 lt x0 x1 x2 xl
  have ⟨c0, c1, c2, c3, c4, c5, lt⟩ := HK.out.pb.plc
  have hbx := (HK.out.bx (ba, .cells #[.int .i64 0, .int .i64 0, .int .i64 0] 37) (by simp)).2
  have x0 := cell_at (o := 0) hbx rfl
  have x1 := cell_at (o := 1) hbx rfl
  have x2 := cell_at (o := 2) hbx rfl
  have xl := heap_lt hbx
  clear hbx
  go_wp2_with (go_at_call 20; refine (aret_PT p 0 0 2 _ HP.out (by omega) (by omega)).mono ?_; rintro e w2 ⟨v1, F1, rfl, hx2, hp1, hbn1, hsub1⟩; refine Hid.out ?_)
  refine Lib.hid ?_
  have HOF1 := Lib.hid (fun j (hj : F1 j) => (hsub1 j hj).elim (fun h => h.elim) fun h => (.inr (Nat.le_trans HK.out.m.top h) : j < lo ∨ hi ≤ j))
  have HK2 := Lib.hid (HK.out.ext hx2)
  have HP1 := Lib.hid hp1
  have HBN1 := Lib.hid hbn1
  clear hx2 hp1 hbn1 hsub1
  go_wp2_with (go_at_call 14; refine (cap_int HK2.out.m 0 1#64 (by omega) (by rw [HK2.out.mg.n]; omega) (Lib.hid HK2.out.mg.e)).mono ?_; rintro e w3 ⟨rfl, hx3⟩; refine Hid.out ?_)
  refine Lib.hid ?_
  have HK3 := Lib.hid (HK2.out.ext hx3)
  replace HP1 := Lib.hid (HP1.out.agr (Agr.of_ext hx3 HBN1.out))
  replace HBN1 := Lib.hid (HBN1.out.ext hx3.size)
  clear hx3
  go_wp2_with (go_at_call 19; refine (runI_any HR3.out 999 (by omega) (by omega) F1 v1 w3 HP1.out HBN1.out HOF1.out HK3.out.m).mono ?_; rintro e w7 ⟨rfl, hm4, hf4⟩; refine Hid.out ?_)
  refine Lib.hid ?_
  have HS : Hid (AhRel p s lo hi L w B ba tt (.int .i64 0) w7) := Lib.hid ⟨0, M3, _, _, 1, sf1, rfl, htr.1, HK3.out.ran hm4 hf4 HG3.out (by omega) hlo1, Lib.hid ⟨HA3.out.1, HA3.out.2, by omega⟩⟩
  clear hm4 hf4 HP1 HBN1 HOF1 HK HK2 HK3 HR3 HG3 HA3 c0 c1 c2 c3 c4 c5 lt x0 x1 x2 xl
  go_wp2
  go_loopw [10] (fun vi wr => AhRel p s lo hi L w B ba tt vi wr) (fun vi _ => (tt - intOf vi).toNat)
  case atStart => exact HS.out
  case round =>
    clear HS
    obtain ⟨i, M, fl, rt, T, sf, rfl, hi1, hS, hD⟩ := hrel
    have HR := Lib.hid hS
    clear hS
    have ⟨c0, c1, c2, c3, c4, c5, lt⟩ := HR.out.pb.plc
    have ett := htt.out
    have ewt : wrap64 tt = tt := by unfold wrap64; omega
    by_cases hlt : (i : Int) < tt
    · obtain ⟨M1, M2, T', c, x, gx, fl', rt', sf', r1, hc, g1, hx, hx0, r2, hT', a2, b2⟩ := hd1_turn hsr (by omega) hD.out.1 hD.out.2.1 hD.out.2.2
      have HN := Lib.hid (And.intro b2 (And.intro a2 hT'))
      have g2 := a2.fl.mg
      rw [hp.out] at r1 g1 r2 g2
      have HR1 := Lib.hid r1
      have HG1 := Lib.hid g1
      have HQ2 := Lib.hid r2
      have HG2 := Lib.hid g2
      have hx1 := hx.1
      have hx2 : x < 4 := hx.2
      have dx : (x == 0) = false := by simp; exact hx0
      clear r1 g1 r2 g2 a2 b2 hT' hx hD
      go_wp2_with (go_at_call 13; refine (new_PT p 0 1 2 _ HP.out (by omega)).mono ?_; rintro e w2 ⟨v1, F1, rfl, hx2, hp1, hbn1, hsub1⟩; refine Hid.out ?_)
      refine Lib.hid ?_
      have HOF1 := Lib.hid (fun j (hj : F1 j) => (hsub1 j hj).elim (fun h => h.elim) fun h => (.inr (Nat.le_trans HR.out.m.top h) : j < lo ∨ hi ≤ j))
      have HR2 := Lib.hid (HR.out.ext hx2)
      have HP1 := Lib.hid hp1
      have HBN1 := Lib.hid hbn1
      clear hx2 hp1 hbn1 hsub1
      go_wp2_with (go_at_call 14; refine (cap_int HR2.out.m 0 1#64 (by omega) (by rw [HR2.out.mg.n]; omega) (Lib.hid HR2.out.mg.e)).mono ?_; rintro e w3 ⟨rfl, hx3⟩; refine Hid.out ?_)
      refine Lib.hid ?_
      have HR3 := Lib.hid (HR2.out.ext hx3)
      replace HP1 := Lib.hid (HP1.out.agr (Agr.of_ext hx3 HBN1.out))
      replace HBN1 := Lib.hid (HBN1.out.ext hx3.size)
      clear hx3
      go_wp2_with (go_at_call 12; refine (runG_any HR1.out 999 (by omega) (by omega) F1 v1 w3 HP1.out HBN1.out HOF1.out HR3.out.m).mono ?_; rintro e w4 ⟨rfl, hm4, hf4⟩; refine Hid.out ?_)
      refine Lib.hid ?_
      have HI4 := Lib.hid (HR3.out.ran hm4 hf4 HG1.out (by omega) hlo1)
      clear hm4 hf4 HP1 HBN1 HOF1 HR HR2 HR3 HR1 c0 c1 c2 c3 c4 c5 lt
      go_upto_region 14 with (fail)
      have HJ := Lib.hid (HI4.out.new (.cells #[.int .i64 x, .int .i64 gx, .int .i64 0] 37))
      clear HI4
      generalize w4.alloc (.cells #[.int .i64 x, .int .i64 gx, .int .i64 0] 37) = w5 at HJ ⊢
      generalize w4.heap.size = bb at HJ ⊢
      have ⟨c0, c1, c2, c3, c4, c5, lt⟩ := HJ.out.pb.plc
      have hbx := (HJ.out.bx (ba, .cells #[.int .i64 0, .int .i64 0, .int .i64 0] 37) (by simp)).2
      have x0 := cell_at (o := 0) hbx rfl
      have x1 := cell_at (o := 1) hbx rfl
      have x2 := cell_at (o := 2) hbx rfl
      have xl := heap_lt hbx
      clear hbx
      have hby := (HJ.out.bx (bb, .cells #[.int .i64 x, .int .i64 gx, .int .i64 0] 37) (by simp)).2
      have y0 := cell_at (o := 0) hby rfl
      have y1 := cell_at (o := 1) hby rfl
      have y2 := cell_at (o := 2) hby rfl
      have yl := heap_lt hby
      clear hby
      go_wp2_with (go_at_call 20; refine (aret_PT p 0 x 2 _ HP.out hx1 (by omega)).mono ?_; rintro e w2 ⟨v1, F1, rfl, hx2, hp1, hbn1, hsub1⟩; refine Hid.out ?_)
      refine Lib.hid ?_
      have HOF1 := Lib.hid (fun j (hj : F1 j) => (hsub1 j hj).elim (fun h => h.elim) fun h => (.inr (Nat.le_trans HJ.out.m.top h) : j < lo ∨ hi ≤ j))
      have HJ2 := Lib.hid (HJ.out.ext hx2)
      have HP1 := Lib.hid hp1
      have HBN1 := Lib.hid hbn1
      clear hx2 hp1 hbn1 hsub1
      go_wp2_with (go_at_call 14; refine (cap_int HJ2.out.m 0 1#64 (by omega) (by rw [HJ2.out.mg.n]; omega) (Lib.hid HJ2.out.mg.e)).mono ?_; rintro e w3 ⟨rfl, hx3⟩; refine Hid.out ?_)
      refine Lib.hid ?_
      have HJ3 := Lib.hid (HJ2.out.ext hx3)
      replace HP1 := Lib.hid (HP1.out.agr (Agr.of_ext hx3 HBN1.out))
      replace HBN1 := Lib.hid (HBN1.out.ext hx3.size)
      clear hx3
      go_wp2_with (go_at_call 19; refine (runI_any HQ2.out 999 (by omega) (by omega) F1 v1 w3 HP1.out HBN1.out HOF1.out HJ3.out.m).mono ?_; rintro e w7 ⟨rfl, hm4, hf4⟩; refine Hid.out ?_)
      refine Lib.hid ?_
      have HK := HJ3.out.ran hm4 hf4 HG2.out (by omega) hlo1
      have HK2 : HBs p lo hi L B w [(ba, .cells #[.int .i64 0, .int .i64 0, .int .i64 0] 37)] M2 w7 := ⟨HK.m, HK.mg, HK.ex, HK.pb, fun z hz => HK.bx z (List.mem_cons_of_mem _ hz)⟩
      replace HK2 := Lib.hid HK2
      clear hm4 hf4 HP1 HBN1 HOF1 HJ HJ2 HJ3 HQ2 HK c0 c1 c2 c3 c4 c5 lt x0 x1 x2 xl y0 y1 y2 yl
      go_wp2
      exact ⟨⟨i + 1, M2, fl', rt', T', sf', by go_num, by omega, HK2.out, HN⟩, by simp [intOf]; omega⟩
    · have hi60 : i ≤ 60 := by omega
      go_wp2_with (go_at_call 31; refine (hclear_PT p 1 _).mono ?_; rintro e w2 ⟨v1, F1, rfl, hx2, hp1, hbn1, hsub1⟩; refine Hid.out ?_)
      refine Lib.hid ?_
      have HOF1 := Lib.hid (fun j (hj : F1 j) => (hsub1 j hj).elim (fun h => h.elim) fun h => (.inr (Nat.le_trans HR.out.m.top h) : j < lo ∨ hi ≤ j))
      have HR2 := Lib.hid (HR.out.ext hx2)
      have HP1 := Lib.hid hp1
      have HBN1 := Lib.hid hbn1
      clear hx2 hp1 hbn1 hsub1
      go_wp2_with (go_at_call 14; refine (cap_int HR2.out.m 0 1#64 (by omega) (by rw [HR2.out.mg.n]; omega) (Lib.hid HR2.out.mg.e)).mono ?_; rintro e w3 ⟨rfl, hx3⟩; refine Hid.out ?_)
      refine Lib.hid ?_
      have HR3 := Lib.hid (HR2.out.ext hx3)
      replace HP1 := Lib.hid (HP1.out.agr (Agr.of_ext hx3 HBN1.out))
      replace HBN1 := Lib.hid (HBN1.out.ext hx3.size)
      clear hx3
      go_wp2_with (go_at_call 29; refine (runClrH p HP.out HR3.out.mg 1 (by omega) (by omega) F1 v1 w3 HP1.out HBN1.out HOF1.out HR3.out.m).mono ?_; rintro e w4 ⟨M2, rfl, hm4, hf4, hz4⟩; refine Hid.out ?_)
      refine Lib.hid ?_
      have HI4 := Lib.hid (HR3.out.ran hm4 hf4 hz4.mg (by omega) hlo1)
      rw [← hp.out] at hz4
      obtain ⟨a2, b2⟩ := hd_clear hsr hi60 hD.out.1 hD.out.2.1 hz4
      have HS2 : Hid (AjRel p lo hi L w B ba (.bool false) (.int .i64 0) w4) := Lib.hid ⟨0, false, M2, fl, rt, T, sf, rfl, rfl, by omega, HI4.out, Lib.hid ⟨b2, a2, by have := hD.out.2.2; omega⟩⟩
      clear hm4 hf4 hz4 HP1 HBN1 HOF1 HR HR2 HR3 HI4 a2 b2 hD hlt ett ewt c0 c1 c2 c3 c4 c5 lt
      go_wp2
      go_loopw [14, 15] (fun vs vi wr => AjRel p lo hi L w B ba vs vi wr) (fun _ vi _ => (4 - intOf vi).toNat)
      case atStart => exact HS2.out
      case round =>
        clear HS2
        obtain ⟨j, seen, M, fl, rt, T, sf, rfl, rfl, hj, hS, hD⟩ := hrel
        have HR := Lib.hid hS
        clear hS
        have ⟨c0, c1, c2, c3, c4, c5, lt⟩ := HR.out.pb.plc
        by_cases hlt : (j : Int) < 4
        · obtain ⟨M1, T', c, x, gx, fl', rt', sf', r1, hc, hT', a2, b2⟩ := hd2_new (by omega) hD.out.1 hD.out.2.1 hD.out.2.2
          have HN := Lib.hid (And.intro b2 (And.intro a2 hT'))
          have g1 := a2.fl.mg
          rw [hp.out] at r1 g1
          have HR1 := Lib.hid r1
          have HG1 := Lib.hid g1
          clear r1 g1 a2 b2 hT' hD
          go_wp2_with (go_at_call 13; refine (new_PT p 0 1 2 _ HP.out (by omega)).mono ?_; rintro e w2 ⟨v1, F1, rfl, hx2, hp1, hbn1, hsub1⟩; refine Hid.out ?_)
          refine Lib.hid ?_
          have HOF1 := Lib.hid (fun j (hj : F1 j) => (hsub1 j hj).elim (fun h => h.elim) fun h => (.inr (Nat.le_trans HR.out.m.top h) : j < lo ∨ hi ≤ j))
          have HR2 := Lib.hid (HR.out.ext hx2)
          have HP1 := Lib.hid hp1
          have HBN1 := Lib.hid hbn1
          clear hx2 hp1 hbn1 hsub1
          go_wp2_with (go_at_call 14; refine (cap_int HR2.out.m 0 1#64 (by omega) (by rw [HR2.out.mg.n]; omega) (Lib.hid HR2.out.mg.e)).mono ?_; rintro e w3 ⟨rfl, hx3⟩; refine Hid.out ?_)
          refine Lib.hid ?_
          have HR3 := Lib.hid (HR2.out.ext hx3)
          replace HP1 := Lib.hid (HP1.out.agr (Agr.of_ext hx3 HBN1.out))
          replace HBN1 := Lib.hid (HBN1.out.ext hx3.size)
          clear hx3
          go_wp2_with (go_at_call 12; refine (runG_any HR1.out 999 (by omega) (by omega) F1 v1 w3 HP1.out HBN1.out HOF1.out HR3.out.m).mono ?_; rintro e w4 ⟨rfl, hm4, hf4⟩; refine Hid.out ?_)
          refine Lib.hid ?_
          have HI4 := Lib.hid (HR3.out.ran hm4 hf4 HG1.out (by omega) hlo1)
          clear hm4 hf4 HP1 HBN1 HOF1 HR HR2 HR3 HR1 c0 c1 c2 c3 c4 c5 lt
          go_upto_region 23 with (fail)
          have HJ := Lib.hid (HI4.out.new (.cells #[.int .i64 x, .int .i64 gx, .int .i64 0] 37))
          clear HI4
          generalize w4.alloc (.cells #[.int .i64 x, .int .i64 gx, .int .i64 0] 37) = w5 at HJ ⊢
          generalize w4.heap.size = bb at HJ ⊢
          have hbx := (HJ.out.bx (ba, .cells #[.int .i64 0, .int .i64 0, .int .i64 0] 37) (by simp)).2
          have x0 := cell_at (o := 0) hbx rfl
          have x1 := cell_at (o := 1) hbx rfl
          have x2 := cell_at (o := 2) hbx rfl
          have xl := heap_lt hbx
          clear hbx
          have hby := (HJ.out.bx (bb, .cells #[.int .i64 x, .int .i64 gx, .int .i64 0] 37) (by simp)).2
          have y0 := cell_at (o := 0) hby rfl
          have y1 := cell_at (o := 1) hby rfl
          have y2 := cell_at (o := 2) hby rfl
          have yl := heap_lt hby
          clear hby
          have HJJ := HJ.out
          have HK2 : HBs p lo hi L B w [(ba, .cells #[.int .i64 0, .int .i64 0, .int .i64 0] 37)] M1 w5 := ⟨HJJ.m, HJJ.mg, HJJ.ex, HJJ.pb, fun z hz => HJJ.bx z (List.mem_cons_of_mem _ hz)⟩
          replace HK2 := Lib.hid HK2
          clear HJ HJJ
          cases seen with
          | true =>
            go_wp2
            exact ⟨⟨j + 1, true, M1, fl', rt', T', sf', rfl, by go_num, by omega, HK2.out, HN⟩, by simp [intOf]; omega⟩
          | false =>
            by_cases e1 : x = 0
            · by_cases e2 : gx = 1
              · have d1 : (x == 0) = true := by simp; exact e1
                have d2 : (gx == 1) = true := by simp; exact e2
                rw [show (false || (decide (x = 0) && decide (gx = 1))) = true by simp [e1, e2]] at HN
                clear e1 e2
                go_wp2
                exact ⟨⟨j + 1, true, M1, fl', rt', T', sf', rfl, by go_num, by omega, HK2.out, HN⟩, by simp [intOf]; omega⟩
              · have d1 : (x == 0) = true := by simp; exact e1
                have d2 : (gx == 1) = false := by simp; exact e2
                rw [show (false || (decide (x = 0) && decide (gx = 1))) = false by simp [e2]] at HN
                clear e1 e2
                go_wp2
                exact ⟨⟨j + 1, false, M1, fl', rt', T', sf', rfl, by go_num, by omega, HK2.out, HN⟩, by simp [intOf]; omega⟩
            · have d1 : (x == 0) = false := by simp; exact e1
              rw [show (false || (decide (x = 0) && decide (gx = 1))) = false by simp [e1]] at HN
              clear e1
              go_wp2
              exact ⟨⟨j + 1, false, M1, fl', rt', T', sf', rfl, by go_num, by omega, HK2.out, HN⟩, by simp [intOf]; omega⟩
        · obtain rfl : j = 4 := by omega
          obtain rfl := hd_end hD.out.1
          clear hD
          go_wp2
          go_ret
          exact Ret.mk HR.out.ex
end Go.Proofs.YtpidmbclgfnekaaGreat
