/-
  The law AllocQuota, walked. Conditions: those of each theorem.
-/
import Derived.Test.YtpidmbclgfnekaaGreatGbo
namespace Go.Proofs.YtpidmbclgfnekaaGreat
open Go Go.RowKit

/-- So many nodes are live. -/
def sfI (k : Nat) : Int → St := fun m => if 0 ≤ m ∧ m < (k : Int) then ⟨0, 1, 0⟩ else ⟨0, 0, 0⟩
theorem sfI_up (k : Nat) : upS (sfI k) (k : Int) (liveF 0 (sfI k (k : Int))) = sfI (k + 1) := by
  funext m
  unfold upS sfI liveF
  by_cases h : m = (k : Int)
  · subst h
    rw [if_pos rfl, if_neg (by omega), if_pos (by omega)]
  · rw [if_neg h]
    by_cases h2 : 0 ≤ m ∧ m < (k : Int)
    · rw [if_pos h2, if_pos (by omega)]
    · rw [if_neg h2, if_neg (by omega)]
theorem sfI_g (k : Nat) (m : Int) : (sfI k m).g = 0 := by
  unfold sfI
  split <;> rfl
theorem sfI_zero : sfI 0 = fun _ => ⟨0, 0, 0⟩ := by
  funext m
  unfold sfI
  rw [if_neg (by omega)]
/-- In the midst: the memory, and thread 0's nodes. -/
structure AqIn (p : Pl) (lo hi : Nat) (L : Lay) (w : World) (M : MS) (fs rs : List Int) (T : Nat) (sf : Int → St) (wr : World) : Prop where
  h : HIn p lo hi L w.heap.size w M wr
  a : AIn p 0 M fs rs T sf (fun _ => 0#64)
theorem AqIn.ext {p : Pl} {lo hi : Nat} {L : Lay} {w : World} {M : MS} {fs rs : List Int} {T : Nat} {sf : Int → St} {wr wr' : World} (h : AqIn p lo hi L w M fs rs T sf wr) (hx : Ext wr wr') : AqIn p lo hi L w M fs rs T sf wr' := ⟨h.h.ext hx, h.a⟩
def AqRel (p : Pl) (lo hi : Nat) (L : Lay) (w : World) (vi : Value) (wr : World) : Prop := ∃ (k : Nat) (M : MS), vi = .int .i64 (k : Int) ∧ k ≤ p.n.toNat ∧ AqIn p lo hi L w M (rfr (p.n.toNat - k) (k : Int)) [] k (sfI k) wr
/-- Nothing is held where no hazard is set. -/
theorem held0 {p : Pl} {n : Int} (h0 : 0 ≤ n) (h1 : n < 4611686018427387904) : hldB p (fun _ => 0#64) n = false := by
  unfold hldB
  rw [Bool.eq_false_iff]
  intro h
  obtain ⟨j, _, _, e⟩ := heldR_some _ _ h
  exact nameW_ne0 h0 h1 e.symm
set_option maxRecDepth 8000 in
set_option maxHeartbeats 1000000 in
theorem aqt_nofew (p : Pl) (n : Int) (hf : ¬ (p.few ∧ p.ok)) (w : World) : Calls Tryz.prog 5 #[plV p, .int .u8 n] w (Ret (.bool true) w) := by
  have HFP := Lib.hid hf
  clear hf
  go_enter Tryz.func5, Tryz.ntmps5
  go_wp2_with (first
    | (go_at_call 8; refine (r12wake_any _).mono ?_; rintro e w' hr; obtain ⟨rfl, sA, rfl⟩ := hr.over; clear hr)
    | (go_at_call 9; refine (r12few_any p _ false (hid_no HFP.out)).mono ?_; rintro e w' hr; obtain ⟨rfl, sA, rfl⟩ := hr.over; clear hr))
  go_ret
  exact Ret.mk (by repeat (first | exact ext_refl _ | apply ext_over | apply ext_alloc))
set_option maxRecDepth 8000 in
set_option maxHeartbeats 4000000 in
theorem aqt_yes (p : Pl) (hf : p.few ∧ p.ok) (n : Int) (hn0 : 0 ≤ n) (hn1 : n < 256) (w : World) : Calls Tryz.prog 5 #[plV p, .int .u8 n] w (Ret (.bool true) w) := by
  have HFP := Lib.hid hf
  have HP := Lib.hid hf.2
  have hpn : 1 ≤ p.n ∧ p.n ≤ 40 := ⟨hf.2.1.1, (hf.1 hf.2).1⟩
  have hrr : 4 ≤ p.r ∧ p.r ≤ 1024 := by have := hf.2.2.2.1; have := hf.2.2.1; omega
  have hpt : 0 < p.t := by have := hf.2.2.1; omega
  have hpg : 1 ≤ p.g := hf.2.2.2.2.2.2.1
  clear hf
  have hLd : ∀ W, Calls Tryz.prog 10 #[plV p] W (RetLaidZ p W) := fun W => laidZ_any p HP.out W
  replace hLd := Lib.hid hLd
  go_enter Tryz.func5, Tryz.ntmps5
  go_wp2_with (first
    | (go_at_call 8; refine (r12wake_any _).mono ?_; rintro e w' hr; obtain ⟨rfl, sA, rfl⟩ := hr.over; clear hr)
    | (go_at_call 9; refine (r12few_any p _ true (hid_yes HFP.out)).mono ?_; rintro e w' hr; obtain ⟨rfl, sA, rfl⟩ := hr.over; clear hr)
    | (go_at_call 10; refine Hid.out ?_))
  refine Lib.hid ?_
  refine (hLd.out _).mono ?_
  rintro e w1 ⟨lo, hi, L, M, rfl, hM, hF, hx, hlo⟩
  have hx1 : Ext (w.alloc (.cells #[.int .i64 p.n, .int .i64 p.t, .int .i64 p.r, .int .i64 p.d, .int .i64 p.b, .int .i64 p.g] 23)) w1 := by
    refine ext_trans ?_ hx
    repeat (first | exact ext_refl _ | apply ext_over)
  have hlo1 : w.heap.size < lo := by
    refine Nat.lt_of_lt_of_le ?_ hlo
    refine Nat.lt_of_lt_of_le (m := (w.alloc (.cells #[.int .i64 p.n, .int .i64 p.t, .int .i64 p.r, .int .i64 p.d, .int .i64 p.b, .int .i64 p.g] 23)).heap.size) (by simp) ?_
    first | exact over_size _ _ | exact Nat.le_trans (over_size _ _) (over_size _ _) | exact Nat.le_trans (over_size _ _) (Nat.le_trans (over_size _ _) (over_size _ _))
  have hb0 : PBox w.heap.size p w1 := (hx1.block _ (by simp)).trans (heap_at w _ _ rfl)
  have hhi := hM.top
  have HI := Lib.hid (HIn.mk hM hF.1.mg (ext_trans (ext_alloc _ (ext_refl w)) hx1) hb0)
  have HAI := Lib.hid (AIn.fresh HP.out hF.1 hF.2 (t := 0) (by omega) (by have := HP.out.2.1; omega))
  clear hM hF hx hx1 hlo hb0 hLd
  have hA0 := HAI.out
  rw [← sfI_zero] at hA0
  have HS : Hid (AqIn p lo hi L w M (rfr (p.n.toNat - 0) ((0 : Nat) : Int)) [] 0 (sfI 0) w1) := Lib.hid ⟨HI.out, hA0⟩
  clear hA0 HAI HI
  go_wp2
  go_loopw [6] (fun vi wr => AqRel p lo hi L w vi wr) (fun vi _ => (p.n - intOf vi).toNat)
  case atStart => exact ⟨0, M, rfl, by omega, HS.out⟩
  case round =>
    clear HS
    obtain ⟨k, M, rfl, hk, hS⟩ := hrel
    have HR := Lib.hid hS
    clear hS
    have ⟨c0, c1, c2, c3, c4, c5, lt⟩ := HR.out.h.pb.plc
    by_cases hlt : (k : Int) < p.n
    · have hA := HR.out.a
      rw [show p.n.toNat - k = (p.n.toNat - (k + 1)) + 1 by omega, rfr] at hA
      obtain ⟨M1, r1, a1⟩ := new_take HP.out (by omega) hpt hA (by omega) (kd := 0) (by omega) 0
      rw [sfI_up] at a1
      rw [sfI_g] at r1
      have HR1 := Lib.hid r1
      have HA1 := Lib.hid a1
      have HH := Lib.hid HR.out.h
      have hg := gdGr
      have e3 : ∀ y, (binOp .neq 37 (.agg #[.int .i64 (k : Int), .int .i64 0, .int .i64 0]) (.agg #[.int .i64 (k : Int), .int .i64 0, .int .i64 0])).run Tryz.prog y = .ok (.bool false) y := fun y => by
        have := neGr ⟨(k : Int), 0, 0⟩ ⟨(k : Int), 0, 0⟩ y
        rw [decide_eq_true rfl] at this
        exact this
      clear r1 a1 hA
      go_wp2_with (go_at_call 13; refine (new_PT p 0 0 2 _ HP.out (by omega)).mono ?_; rintro e w2 ⟨v1, F1, rfl, hx2, hp1, hbn1, hsub1⟩; refine Hid.out ?_)
      refine Lib.hid ?_
      have HOF1 := Lib.hid (fun j (hj : F1 j) => (hsub1 j hj).elim (fun h => h.elim) fun h => (.inr (Nat.le_trans HH.out.m.top h) : j < lo ∨ hi ≤ j))
      have HH2 := Lib.hid (HH.out.ext hx2)
      have HP1 := Lib.hid hp1
      have HBN1 := Lib.hid hbn1
      clear hx2 hp1 hbn1 hsub1
      go_wp2_with (go_at_call 14; refine (cap_int HH2.out.m 0 1#64 (by omega) (by rw [HH2.out.mg.n]; omega) (Lib.hid HH2.out.mg.e)).mono ?_; rintro e w3 ⟨rfl, hx3⟩; refine Hid.out ?_)
      refine Lib.hid ?_
      have HH3 := Lib.hid (HH2.out.ext hx3)
      replace HP1 := Lib.hid (HP1.out.agr (Agr.of_ext hx3 HBN1.out))
      replace HBN1 := Lib.hid (HBN1.out.ext hx3.size)
      clear hx3
      go_wp2_with (go_at_call 12; refine (runG_any HR1.out 100 (by omega) (by omega) F1 v1 w3 HP1.out HBN1.out HOF1.out HH3.out.m).mono ?_; rintro e w4 ⟨rfl, hm4, hf4⟩; refine Hid.out ?_)
      refine Lib.hid ?_
      have HI4 : Hid (AqIn p lo hi L w M1 (rfr (p.n.toNat - (k + 1)) ((k + 1 : Nat) : Int)) [] (k + 1) (sfI (k + 1)) w4) := Lib.hid ⟨HH3.out.ran hm4 hf4 HA1.out.fl.mg (by omega) hlo1, HA1.out⟩
      clear hm4 hf4 HP1 HBN1 HOF1 HR HH HH2 HH3 HR1 HA1 c0 c1 c2 c3 c4 c5 lt
      go_wp2
      exact ⟨⟨k + 1, M1, by go_num, by omega, HI4.out.ext (ext_alloc _ (ext_refl _))⟩, by simp [intOf]; omega⟩
    · have hA := HR.out.a
      have hkn : k = p.n.toNat := by omega
      rw [show p.n.toNat - k = 0 by omega, rfr] at hA
      have HH := Lib.hid (HBs.of HR.out.h)
      obtain ⟨kk, hkk⟩ : ∃ kk : Int, Hid (Int.tmod n p.n = kk) := ⟨_, Lib.hid rfl⟩
      have hkr : 0 ≤ kk ∧ kk < p.n := by
        have h1 := hkk.out
        rw [Int.tmod_eq_emod_of_nonneg hn0] at h1
        have h2 := Int.emod_nonneg n (show p.n ≠ 0 by omega)
        have h3 := Int.emod_lt_of_pos n (show 0 < p.n by omega)
        omega
      have hs0 : (sfI k kk) = ⟨0, 1, 0⟩ := by unfold sfI; rw [if_pos (by omega)]
      -- none
      obtain ⟨M1, T1, s1, g1, r1, hs1, hT1, b1⟩ := new_scan HP.out (by omega) hpt hA (by omega) (kd := 0) (by omega) [] [] [] rfl rfl
      obtain ⟨rfl, a1⟩ := b1
      have efr : freedS p (sfI k) [] = sfI k := by funext m; unfold freedS; rw [if_neg (by simp)]
      rw [efr] at a1
      -- retire
      obtain ⟨M2, r2, a2⟩ := aret_room HP.out (by omega) hpt a1 (n := kk) ⟨hkr.1, hkr.2⟩ (by simp) (by simp; omega) 2
      rw [hs0] at a2
      -- it is granted
      have hh0 : hldB p (fun _ => 0#64) kk = false := held0 hkr.1 (by omega)
      have hsc : scanP (hldB p (fun _ => 0#64)) ([] ++ [kk]).length ([] ++ [kk]) [] = ([], [kk]) := by
        show scanP (hldB p (fun _ => 0#64)) 1 [kk] [] = _
        unfold scanP
        rw [show iN [kk] 0 = kk from rfl, hh0]
        rfl
      have hfz : ((upS (sfI k) kk (retF' ⟨0, 1, 0⟩)) kk).freed p.g = ⟨1, 0, 0⟩ := by
        rw [upS_same]
        unfold St.freed retF'
        rw [if_neg (show ¬ p.g ≤ 0 by omega)]
        show St.mk (wrap64 (0 + 1)) 0 0 = _
        rw [show wrap64 (0 + 1) = 1 by unfold wrap64; omega]
      have hpl : pushL (goneS p (upS (sfI k) kk (retF' ⟨0, 1, 0⟩))) [] [kk] = [kk] := by
        unfold pushL
        have : goneS p (upS (sfI k) kk (retF' ⟨0, 1, 0⟩)) kk = false := by
          unfold goneS
          rw [hfz]
          rfl
        rw [this]
        rfl
      obtain ⟨M3, T3, s3, g3, r3, hs3, hT3, b3⟩ := new_scan HP.out (by omega) hpt a2 (by simp at hT1; omega) (kd := 0) (by omega) [] [kk] [kk] hsc hpl
      obtain ⟨rfl, a3⟩ := b3
      have hgg : (freedS p (upS (sfI k) kk (retF' ⟨0, 1, 0⟩)) [kk] kk).g = 1 := by
        unfold freedS
        rw [if_pos (by simp), hfz]
      rw [hgg] at r3
      obtain ⟨M4, T4, s4, g4, r4, hs4, hT4, b4⟩ := new_scan HP.out (by omega) hpt a3 (by simp at hT1 hT3; omega) (kd := 0) (by omega) [] [] [] rfl rfl
      obtain ⟨rfl, a4⟩ := b4
      have HR1 := Lib.hid r1
      have HR2 := Lib.hid r2
      have HR3 := Lib.hid r3
      have HR4 := Lib.hid r4
      have HG := Lib.hid (And.intro a1.fl.mg (And.intro a2.fl.mg (And.intro a3.fl.mg a4.fl.mg)))
      have hg := gdGr
      have e3 : ∀ y, (binOp .eql 37 (.agg #[.int .i64 (-1), .int .i64 0, .int .i64 4]) (.agg #[.int .i64 (-1), .int .i64 0, .int .i64 4])).run Tryz.prog y = .ok (.bool true) y := fun y => by
        have := eqGr ⟨-1, 0, 4⟩ ⟨-1, 0, 4⟩ y
        rw [decide_eq_true rfl] at this
        exact this
      have e4 : ∀ y, (binOp .eql 37 (.agg #[.int .i64 kk, .int .i64 1, .int .i64 0]) (.agg #[.int .i64 kk, .int .i64 1, .int .i64 0])).run Tryz.prog y = .ok (.bool true) y := fun y => by
        have := eqGr ⟨kk, 1, 0⟩ ⟨kk, 1, 0⟩ y
        rw [decide_eq_true rfl] at this
        exact this
      have e5 : wrap64 n = n := by unfold wrap64; omega
      simp only [List.length_nil, List.nil_append, List.length_cons, Nat.zero_add] at hs1 hs3 hs4
      have hpn0 : p.n ≠ 0 := by omega
      clear hA a1 a2 a3 a4 r1 r2 r3 r4 hh0 hsc hfz hpl hgg hs0 efr hT1 hT3 hT4 HR
      have hkm := hkk.out
      go_wp2_with (go_at_call 13; refine (new_PT p 0 0 2 _ HP.out (by omega)).mono ?_; rintro e w2 ⟨v1, F1, rfl, hx2, hp1, hbn1, hsub1⟩; refine Hid.out ?_)
      refine Lib.hid ?_
      have HOF1 := Lib.hid (fun j (hj : F1 j) => (hsub1 j hj).elim (fun h => h.elim) fun h => (.inr (Nat.le_trans HH.out.m.top h) : j < lo ∨ hi ≤ j))
      have HH2 := Lib.hid (HH.out.ext hx2)
      have HP1 := Lib.hid hp1
      have HBN1 := Lib.hid hbn1
      clear hx2 hp1 hbn1 hsub1
      go_wp2_with (go_at_call 14; refine (cap_int HH2.out.m 0 1#64 (by omega) (by rw [HH2.out.mg.n]; omega) (Lib.hid HH2.out.mg.e)).mono ?_; rintro e w3 ⟨rfl, hx3⟩; refine Hid.out ?_)
      refine Lib.hid ?_
      have HH3 := Lib.hid (HH2.out.ext hx3)
      replace HP1 := Lib.hid (HP1.out.agr (Agr.of_ext hx3 HBN1.out))
      replace HBN1 := Lib.hid (HBN1.out.ext hx3.size)
      clear hx3
      go_wp2_with (go_at_call 12; refine (runG_any HR1.out 100 (by omega) (by omega) F1 v1 w3 HP1.out HBN1.out HOF1.out HH3.out.m).mono ?_; rintro e w4 ⟨rfl, hm4, hf4⟩; refine Hid.out ?_)
      refine Lib.hid ?_
      have HI4 := Lib.hid (HH3.out.ran hm4 hf4 HG.out.1 (by omega) hlo1)
      clear hm4 hf4 HP1 HBN1 HOF1 HH HH2 HH3 HR1 c0 c1 c2 c3 c4 c5 lt
      go_upto_region 13 with (fail)
      have HJ := Lib.hid (HI4.out.new (.cells #[.int .i64 (-1), .int .i64 0, .int .i64 4] 37))
      clear HI4
      generalize w4.alloc (.cells #[.int .i64 (-1), .int .i64 0, .int .i64 4] 37) = w5 at HJ ⊢
      generalize w4.heap.size = ba at HJ ⊢
      have ⟨c0, c1, c2, c3, c4, c5, lt⟩ := HJ.out.pb.plc
      go_wp2_with (go_at_call 20; refine (aret_PT p 0 kk 2 _ HP.out hkr.1 (by omega)).mono ?_; rintro e w2 ⟨v1, F1, rfl, hx2, hp1, hbn1, hsub1⟩; refine Hid.out ?_)
      refine Lib.hid ?_
      have HOF1 := Lib.hid (fun j (hj : F1 j) => (hsub1 j hj).elim (fun h => h.elim) fun h => (.inr (Nat.le_trans HJ.out.m.top h) : j < lo ∨ hi ≤ j))
      have HJ2 := Lib.hid (HJ.out.ext hx2)
      have HP1 := Lib.hid hp1
      have HBN1 := Lib.hid hbn1
      clear hx2 hp1 hbn1 hsub1
      go_wp2_with (go_at_call 14; refine (cap_int HJ2.out.m 0 1#64 (by omega) (by rw [HJ2.out.mg.n]; omega) (Lib.hid HJ2.out.mg.e)).mono ?_; rintro e w3 ⟨rfl, hx3⟩; refine Hid.out ?_)
      refine Lib.hid ?_
      have HJ3 := Lib.hid (HJ2.out.ext hx3)
      replace HP1 := Lib.hid (HP1.out.agr (Agr.of_ext hx3 HBN1.out))
      replace HBN1 := Lib.hid (HBN1.out.ext hx3.size)
      clear hx3
      go_wp2_with (go_at_call 19; refine (runI_any HR2.out 1000 (by omega) (by omega) F1 v1 w3 HP1.out HBN1.out HOF1.out HJ3.out.m).mono ?_; rintro e w6 ⟨rfl, hm4, hf4⟩; refine Hid.out ?_)
      refine Lib.hid ?_
      have HK := Lib.hid (HJ3.out.ran hm4 hf4 HG.out.2.1 (by omega) hlo1)
      clear hm4 hf4 HP1 HBN1 HOF1 HJ HJ2 HJ3 HR2 c0 c1 c2 c3 c4 c5 lt
      have ⟨c0, c1, c2, c3, c4, c5, lt⟩ := HK.out.pb.plc
      go_wp2_with (go_at_call 13; refine (new_PT p 0 0 2 _ HP.out (by omega)).mono ?_; rintro e w2 ⟨v1, F1, rfl, hx2, hp1, hbn1, hsub1⟩; refine Hid.out ?_)
      refine Lib.hid ?_
      have HOF1 := Lib.hid (fun j (hj : F1 j) => (hsub1 j hj).elim (fun h => h.elim) fun h => (.inr (Nat.le_trans HK.out.m.top h) : j < lo ∨ hi ≤ j))
      have HK2 := Lib.hid (HK.out.ext hx2)
      have HP1 := Lib.hid hp1
      have HBN1 := Lib.hid hbn1
      clear hx2 hp1 hbn1 hsub1
      go_wp2_with (go_at_call 14; refine (cap_int HK2.out.m 0 1#64 (by omega) (by rw [HK2.out.mg.n]; omega) (Lib.hid HK2.out.mg.e)).mono ?_; rintro e w3 ⟨rfl, hx3⟩; refine Hid.out ?_)
      refine Lib.hid ?_
      have HK3 := Lib.hid (HK2.out.ext hx3)
      replace HP1 := Lib.hid (HP1.out.agr (Agr.of_ext hx3 HBN1.out))
      replace HBN1 := Lib.hid (HBN1.out.ext hx3.size)
      clear hx3
      go_wp2_with (go_at_call 12; refine (runG_any HR3.out 1000 (by omega) (by omega) F1 v1 w3 HP1.out HBN1.out HOF1.out HK3.out.m).mono ?_; rintro e w4 ⟨rfl, hm4, hf4⟩; refine Hid.out ?_)
      refine Lib.hid ?_
      have HL := Lib.hid (HK3.out.ran hm4 hf4 HG.out.2.2.1 (by omega) hlo1)
      clear hm4 hf4 HP1 HBN1 HOF1 HK HK2 HK3 HR3 c0 c1 c2 c3 c4 c5 lt
      go_upto_region 16 with (fail)
      have HM := Lib.hid (HL.out.new (.cells #[.int .i64 kk, .int .i64 1, .int .i64 0] 37))
      clear HL
      generalize w4.alloc (.cells #[.int .i64 kk, .int .i64 1, .int .i64 0] 37) = w7 at HM ⊢
      generalize w4.heap.size = bb at HM ⊢
      have ⟨c0, c1, c2, c3, c4, c5, lt⟩ := HM.out.pb.plc
      go_wp2_with (go_at_call 13; refine (new_PT p 0 0 2 _ HP.out (by omega)).mono ?_; rintro e w2 ⟨v1, F1, rfl, hx2, hp1, hbn1, hsub1⟩; refine Hid.out ?_)
      refine Lib.hid ?_
      have HOF1 := Lib.hid (fun j (hj : F1 j) => (hsub1 j hj).elim (fun h => h.elim) fun h => (.inr (Nat.le_trans HM.out.m.top h) : j < lo ∨ hi ≤ j))
      have HM2 := Lib.hid (HM.out.ext hx2)
      have HP1 := Lib.hid hp1
      have HBN1 := Lib.hid hbn1
      clear hx2 hp1 hbn1 hsub1
      go_wp2_with (go_at_call 14; refine (cap_int HM2.out.m 0 1#64 (by omega) (by rw [HM2.out.mg.n]; omega) (Lib.hid HM2.out.mg.e)).mono ?_; rintro e w3 ⟨rfl, hx3⟩; refine Hid.out ?_)
      refine Lib.hid ?_
      have HM3 := Lib.hid (HM2.out.ext hx3)
      replace HP1 := Lib.hid (HP1.out.agr (Agr.of_ext hx3 HBN1.out))
      replace HBN1 := Lib.hid (HBN1.out.ext hx3.size)
      clear hx3
      go_wp2_with (go_at_call 12; refine (runG_any HR4.out 1000 (by omega) (by omega) F1 v1 w3 HP1.out HBN1.out HOF1.out HM3.out.m).mono ?_; rintro e w4 ⟨rfl, hm4, hf4⟩; refine Hid.out ?_)
      refine Lib.hid ?_
      have HN := Lib.hid (HM3.out.ran hm4 hf4 HG.out.2.2.2 (by omega) hlo1)
      clear hm4 hf4 HP1 HBN1 HOF1 HM HM2 HM3 HR4 c0 c1 c2 c3 c4 c5 lt
      go_upto_region 17 with (fail)
      have HO := Lib.hid (HN.out.new (.cells #[.int .i64 (-1), .int .i64 0, .int .i64 4] 37))
      clear HN
      generalize w4.alloc (.cells #[.int .i64 (-1), .int .i64 0, .int .i64 4] 37) = w8 at HO ⊢
      generalize w4.heap.size = bc at HO ⊢
      have hbx := (HO.out.bx (ba, .cells #[.int .i64 (-1), .int .i64 0, .int .i64 4] 37) (by simp)).2
      have x0 := cell_at (o := 0) hbx rfl
      have x1 := cell_at (o := 1) hbx rfl
      have x2 := cell_at (o := 2) hbx rfl
      have xl := heap_lt hbx
      clear hbx
      have hby := (HO.out.bx (bb, .cells #[.int .i64 kk, .int .i64 1, .int .i64 0] 37) (by simp)).2
      have y0 := cell_at (o := 0) hby rfl
      have y1 := cell_at (o := 1) hby rfl
      have y2 := cell_at (o := 2) hby rfl
      have yl := heap_lt hby
      clear hby
      have hbz := (HO.out.bx (bc, .cells #[.int .i64 (-1), .int .i64 0, .int .i64 4] 37) (by simp)).2
      have z0 := cell_at (o := 0) hbz rfl
      have z1 := cell_at (o := 1) hbz rfl
      have z2 := cell_at (o := 2) hbz rfl
      have zl := heap_lt hbz
      clear hbz
      go_wp2
      go_ret
      exact Ret.mk HO.out.ex
end Go.Proofs.YtpidmbclgfnekaaGreat
