/-
  The law HazardClears, walked. Conditions: those of each theorem.
-/
import Derived.Test.YtkjbfhcgldgkaaaGav
import Derived.Deep.Cut
namespace Go.Proofs.Ytkjbfhcgldgkaaa
open Go Go.RowKit

set_option maxRecDepth 8000 in
set_option maxHeartbeats 1000000 in
theorem clears_nofit (p : Pl) (n : Int) (a : Option Addr) (m c : Nat) (hf : ¬ FitsP p 0 0 n) (w : World) : Calls Try.prog 7 #[plV p, .int .i64 n, .slice a m c] w (Ret (.bool true) w) := by
  have HFT := Lib.hid hf
  clear hf
  go_enter Try.func7, Try.ntmps7
  go_wp2_with (first
    | (go_at_call 17; refine (hwake_any _).mono ?_; rintro e w' hr; obtain ⟨rfl, s, rfl⟩ := hr.over; clear hr)
    | (go_at_call 18; refine (fits_any p 0 0 n _ false (hid_no HFT.out)).mono ?_; rintro e w' hr; obtain ⟨rfl, s, rfl⟩ := hr.over; clear hr))
  go_ret
  exact Ret.mk (by repeat (first | exact ext_refl _ | apply ext_over | apply ext_alloc))
set_option maxRecDepth 8000 in
set_option maxHeartbeats 1000000 in
theorem clears_neg (p : Pl) (n : Int) (a : Option Addr) (m c : Nat) (hf : FitsP p 0 0 n) (hn : n < 0) (w : World) : Calls Try.prog 7 #[plV p, .int .i64 n, .slice a m c] w (Ret (.bool true) w) := by
  have HFT := Lib.hid hf
  clear hf
  have q1 : decide (n < 0) = true := by simp; omega
  go_enter Try.func7, Try.ntmps7
  go_wp2_with (first
    | (go_at_call 17; refine (hwake_any _).mono ?_; rintro e w' hr; obtain ⟨rfl, s, rfl⟩ := hr.over; clear hr)
    | (go_at_call 18; refine (fits_any p 0 0 n _ true (hid_yes HFT.out)).mono ?_; rintro e w' hr; obtain ⟨rfl, s, rfl⟩ := hr.over; clear hr))
  go_ret
  exact Ret.mk (by repeat (first | exact ext_refl _ | apply ext_over | apply ext_alloc))
set_option maxRecDepth 8000 in
set_option maxHeartbeats 1000000 in
theorem clears_long (p : Pl) (n : Int) (a : Option Addr) (m c : Nat) (hf : FitsP p 0 0 n) (hn : 0 ≤ n) (hm : 16 < m) (w : World) : Calls Try.prog 7 #[plV p, .int .i64 n, .slice a m c] w (Ret (.bool true) w) := by
  have HFT := Lib.hid hf
  clear hf
  have q1 : decide (n < 0) = false := by simp; omega
  have q2 : decide (16 < (m : Int)) = true := by simp; omega
  go_enter Try.func7, Try.ntmps7
  go_wp2_with (first
    | (go_at_call 17; refine (hwake_any _).mono ?_; rintro e w' hr; obtain ⟨rfl, s, rfl⟩ := hr.over; clear hr)
    | (go_at_call 18; refine (fits_any p 0 0 n _ true (hid_yes HFT.out)).mono ?_; rintro e w' hr; obtain ⟨rfl, s, rfl⟩ := hr.over; clear hr))
  go_ret
  exact Ret.mk (by repeat (first | exact ext_refl _ | apply ext_over | apply ext_alloc))
/-- The slots, one by one. -/
def slN (x : Nat → Nat → Int) (t : Nat) : Nat := (x t 0).toNat % 3
/-- The threads from a on and ahead of b hold the node, by these slots; no other one holds any. -/
structure ClrI (p : Pl) (M : MS) (x : Nat → Nat → Int) (nm : BitVec 64) (a b : Nat) : Prop where
  on : ∀ t, a ≤ t → t < b → hzW p M (3 * t + slN x t) = nm
  off : ∀ i : Nat, (i : Int) < 3 * p.t → i / 3 < a ∨ b ≤ i / 3 → hzW p M i = 0#64
theorem ClrI.set {p : Pl} {M M' : MS} {x : Nat → Nat → Int} {nm : BitVec 64} {b : Nat} (h : ClrI p M x nm 0 b) (hb : (b : Int) < p.t) (hz : HzTo p M M' (fun j => if j = (3 * (b : Int) + (slN x b : Int)).toNat then nm else hzW p M j)) : ClrI p M' x nm 0 (b + 1) := by
  have hs : slN x b < 3 := Nat.mod_lt _ (by omega)
  refine ⟨fun t h0 h1 => ?_, fun i hi h1 => ?_⟩
  · have hst : slN x t < 3 := Nat.mod_lt _ (by omega)
    rw [hz.hz _ (by omega)]
    by_cases e : t = b
    · subst e
      rw [if_pos (by omega)]
    · rw [if_neg (by omega), h.on t h0 (by omega)]
  · rw [hz.hz i hi, if_neg (by omega), h.off i hi (by omega)]
theorem ClrI.clr {p : Pl} {M M' : MS} {x : Nat → Nat → Int} {nm : BitVec 64} {a b : Nat} (h : ClrI p M x nm a b) (hb : (b : Int) ≤ p.t) (hz : HzTo p M M' (fun i => if (3 * (a : Int)).toNat ≤ i ∧ i < (3 * (a : Int) + 3).toNat then 0#64 else hzW p M i)) : ClrI p M' x nm (a + 1) b := by
  refine ⟨fun t h0 h1 => ?_, fun i hi h1 => ?_⟩
  · have hst : slN x t < 3 := Nat.mod_lt _ (by omega)
    rw [hz.hz _ (by omega), if_neg (by omega), h.on t (by omega) h1]
  · rw [hz.hz i hi]
    by_cases e : (3 * (a : Int)).toNat ≤ i ∧ i < (3 * (a : Int) + 3).toNat
    · rw [if_pos e]
    · rw [if_neg e, h.off i hi (by omega)]
theorem ClrI.same {p : Pl} {M M' : MS} {x : Nat → Nat → Int} {nm : BitVec 64} {a b : Nat} (h : ClrI p M x nm a b) (hw : ∀ j, M'.wd 0 j = M.wd 0 j) : ClrI p M' x nm a b :=
  ⟨fun t h0 h1 => (hw _).trans (h.on t h0 h1), fun i hi h1 => (hw _).trans (h.off i hi h1)⟩
theorem ClrI.yes {p : Pl} {M : MS} {x : Nat → Nat → Int} {nm : BitVec 64} {a b : Nat} (h : ClrI p M x nm a b) (hab : a < b) (hb : (b : Int) ≤ p.t) : (heldR (hzW p M) nm (3 * p.t).toNat 0).1 = true := by
  have hst : slN x a < 3 := Nat.mod_lt _ (by omega)
  exact heldR_yes (h.on a (Nat.le_refl _) hab) _ 0 (Nat.zero_le _) (by omega)
theorem ClrI.no {p : Pl} {M : MS} {x : Nat → Nat → Int} {nm : BitVec 64} {a : Nat} (h : ClrI p M x nm a a) (hnm : nm ≠ 0#64) : heldR (hzW p M) nm (3 * p.t).toNat 0 = (false, (3 * p.t).toNat) := by
  rw [heldR_no _ 0 fun j hj => by rw [h.off j (by omega) (by omega)]; exact fun e => hnm e.symm, Nat.zero_add]
def ClRel (p : Pl) (lo hi : Nat) (L : Lay) (w : World) (x : Nat → Nat → Int) (nm : BitVec 64) (k : Nat) (vi : Value) (wr : World) : Prop :=
  ∃ (i : Nat) (M : MS), vi = .int .i64 (i : Int) ∧ i ≤ k ∧ HIn p lo hi L w.heap.size w M wr ∧ ClrI p M x nm 0 i
def ClRel2 (p : Pl) (lo hi : Nat) (L : Lay) (w : World) (x : Nat → Nat → Int) (nm : BitVec 64) (k : Nat) (vi : Value) (wr : World) : Prop :=
  ∃ (i : Nat) (M : MS), vi = .int .i64 (i : Int) ∧ i ≤ k ∧ HIn p lo hi L w.heap.size w M wr ∧ ClrI p M x nm i k
theorem few_n {p : Pl} (hp : p.ok) : p.n < 4611686018427387904 := by have := hp.1; omega
set_option maxRecDepth 8000 in
set_option maxHeartbeats 4000000 in
theorem clears_yes (p : Pl) (n : Int) (hf : FitsP p 0 0 n) (hn : 0 ≤ n) (m : Nat) (x : Nat → Nat → Int) (v : Value) (w : World) (hX : Rs 1 (fun _ => .u8) w v m x) (hm : m ≤ 16) : Calls Try.prog 7 #[plV p, .int .i64 n, v] w (Ret (.bool true) w) := by
  have HFT := Lib.hid hf
  have HP := Lib.hid hf.2.1
  have HXX := Lib.hid hX
  have hnn : n < p.n := hf.2.2.2.2.2.2.2
  have hn1 := few_n HP.out
  have hpt := HP.out.2.1
  obtain ⟨a0, cap, rfl, _, _⟩ := hX
  have q1 : decide (n < 0) = false := by simp; omega
  have q2 : decide (16 < (m : Int)) = false := by simp; omega
  have hnm := Lib.hid (nameW_ne0 hn (by omega))
  clear hf
  go_enter Try.func7, Try.ntmps7
  go_wp2_with (first
    | (go_at_call 17; refine (hwake_any _).mono ?_; rintro e w' hr; obtain ⟨rfl, s, rfl⟩ := hr.over; clear hr)
    | (go_at_call 18; refine (fits_any p 0 0 n _ true (hid_yes HFT.out)).mono ?_; rintro e w' hr; obtain ⟨rfl, s, rfl⟩ := hr.over; clear hr)
    | (go_at_call 12; refine Hid.out ?_))
  refine Lib.hid ?_
  refine (laidZ_any p HP.out _).mono ?_
  rintro e w1 ⟨lo, hi, L, M, rfl, hM, hF, hx, hlo⟩
  have hx1 : Ext (w.alloc (.cells #[.int .i64 p.n, .int .i64 p.t, .int .i64 p.r, .int .i64 p.d, .int .i64 p.b, .int .i64 p.g] 23)) w1 := by
    refine ext_trans ?_ hx
    repeat (first | exact ext_refl _ | apply ext_over)
  have hlo1 : w.heap.size < lo := by
    refine Nat.lt_of_lt_of_le ?_ hlo
    refine Nat.lt_of_lt_of_le (m := (w.alloc (.cells #[.int .i64 p.n, .int .i64 p.t, .int .i64 p.r, .int .i64 p.d, .int .i64 p.b, .int .i64 p.g] 23)).heap.size) (by simp) ?_
    first | exact over_size _ _ | exact Nat.le_trans (over_size _ _) (over_size _ _) | exact Nat.le_trans (over_size _ _) (Nat.le_trans (over_size _ _) (over_size _ _))
  have hb0 : PBox w.heap.size p w1 := (hx1.block _ (by simp)).trans (heap_at w _ _ rfl)
  have hhi := hM.top
  have HI := Lib.hid (HIn.mk hM hF.1.mg (ext_trans (ext_alloc _ (ext_refl w)) hx1) hb0)
  have HZ := Lib.hid hF.2
  clear hM hF hx hx1 hlo hb0
  have HS : Hid (ClrI p M x (nameW n) 0 0) := Lib.hid ⟨fun t h0 h1 => by omega, fun i hi _ => hz_zero HP.out HZ.out hi⟩
  have ⟨c0, c1, c2, c3, c4, c5, lt⟩ := HI.out.pb.plc
  obtain ⟨k, hk⟩ : ∃ k : Nat, (if p.t < (m : Int) then p.t else (m : Int)) = (k : Int) := ⟨(if p.t < (m : Int) then p.t else (m : Int)).toNat, by split <;> omega⟩
  have hmin : ∀ ats ty, Builtin.min_ ats ty #[.int .i64 (m : Int), .int .i64 p.t] = pure (.int .i64 (k : Int)) := fun ats ty => by
    rw [← hk]
    rfl
  have hkm : k ≤ m := by split at hk <;> omega
  have hkt : (k : Int) ≤ p.t := by split at hk <;> omega
  clear hk
  clear HZ
  go_upto_region 7 with (fail)
  clear hmin c0 c1 c2 c3 c4 c5 lt
  go_wp2
  go_loopw [9] (fun vi wr => ClRel p lo hi L w x (nameW n) k vi wr) (fun i _ => (k - intOf i).toNat)
  case atStart => exact ⟨0, M, rfl, Nat.zero_le _, HI.out, HS.out⟩
  case round =>
    obtain ⟨i, M, rfl, hik, hR, hC⟩ := hrel
    have HR := Lib.hid hR
    have HC := Lib.hid hC
    have ⟨c0, c1, c2, c3, c4, c5, lt⟩ := hR.pb.plc
    have e2 := Lib.hid (h64 i (by omega))
    clear hR hC HI HS
    by_cases hlt : i < k
    · obtain ⟨bb, ofs, rfl, hbl, hcell⟩ := HXX.out.at (by omega)
      obtain ⟨d0, hwf⟩ := hcell i (by omega) 0 (by omega)
      have hb8 := bounds_u8 hwf
      rw [Nat.mul_one, Nat.add_zero] at d0
      have hmod : Int.tmod (x i 0) 3 = (slN x i : Int) := by
        rw [Int.tmod_eq_emod_of_nonneg hb8.1]
        unfold slN
        omega
      have hsl : slN x i < 3 := Nat.mod_lt _ (by omega)
      replace d0 := ext_cell HR.out.ex d0
      have hbl2 := cell_lt d0
      have hbl3 : bb < lo := by omega
      clear hcell hwf
      have hlt' : (i : Int) < k := by omega
      go_wp2
      refine wp_region_mix (fun w' => ∃ s, w' = off lo hi wr s) [(0, [0, 1, 2, 3, 4, 5, 6, 7, 8, 10, 11]), (1, [9]), (1, [12]), (1, [13])] (by kernel_rfl) (by kernel_rfl) (off_of ((Fr.refl lo hi wr).drew)) ?_
      simp only [pieces, pickL, List.map_cons, List.map_nil, List.getD_cons_zero, List.getD_cons_succ]
      refine mix_reads ?_
      repeat (go_big_quiet_step (fail))
      refine wpQuiet_nil (mix_acts ?_)
      have HX0 := Lib.hid ((Fr.refl lo hi wr).drew)
      have HI1 := Lib.hid (HR.out.ext (ext_drew (ext_refl wr)))
      go_wp2_with (go_at_call 20; refine (hset_PT p i (slN x i) n (by omega) (by omega) _).mono ?_; rintro e w2 ⟨v1, F1, rfl, hx2, hp1, hbn1, hsub1⟩; refine Hid.out ?_)
      refine Lib.hid ?_
      have HOF1 := Lib.hid (fun j (hj : F1 j) => (hsub1 j hj).elim (fun h => h.elim) fun h => (.inr (Nat.le_trans HI1.out.m.top h) : j < lo ∨ hi ≤ j))
      have HI2 := Lib.hid (HI1.out.ext hx2)
      have HP1 := Lib.hid hp1
      have HBN1 := Lib.hid hbn1
      have HX2 := Lib.hid (HX0.out.ext hx2)
      clear hx2 hp1 hbn1 hsub1
      go_wp2
      refine mixQ_mk (off_of HX2.out) (mix_acts ?_)
      go_wp2_with (go_at_call 21; refine (cap_int HI2.out.m 0 1#64 (by omega) (by rw [HI2.out.mg.n]; omega) (Lib.hid HI2.out.mg.e)).mono ?_; rintro e w3 ⟨rfl, hx3⟩; refine Hid.out ?_)
      refine Lib.hid ?_
      have HI3 := Lib.hid (HI2.out.ext hx3)
      replace HP1 := Lib.hid (HP1.out.agr (Agr.of_ext hx3 HBN1.out))
      replace HBN1 := Lib.hid (HBN1.out.ext hx3.size)
      have HX3 := Lib.hid (HX2.out.ext hx3)
      clear hx3
      go_wp2
      refine mixQ_mk (off_of HX3.out) (mix_acts ?_)
      go_wp2_with (go_at_call 19; refine (runSetH p HP.out HI3.out.mg i (slN x i) (nameW n) (by omega) (by omega) (by omega) (by omega) F1 v1 w3 HP1.out HBN1.out HOF1.out HI3.out.m).mono ?_; rintro e w4 ⟨M1, rfl, hm4, hf4, hz4⟩; refine Hid.out ?_)
      refine Lib.hid ?_
      have HI4 := Lib.hid (HI3.out.ran hm4 hf4 hz4.mg (by omega) hlo1)
      have HC4 := Lib.hid (HC.out.set (by omega) hz4)
      have HX4 := Lib.hid (HX3.out.trans hf4)
      clear hm4 hf4 hz4 HP1 HBN1 HOF1 HX0 HX2 HX3 HI1 HI2 HI3
      go_wp2
      refine mixQ_mk (off_of HX4.out) (mix_end ?_)
      clear c0 c1 c2 c3 c4 c5 lt d0 HC HR
      go_wp2
      exact ⟨⟨i + 1, M1, by first | exact congrArg _ e2.out | rfl, by omega, HI4.out, HC4.out⟩, by simp [intOf]; omega⟩
    · obtain rfl : i = k := by omega
      have hnlt : ¬ ((i : Int) < i) := by omega
      have HC2 : Hid (ClrI p M x (nameW n) 0 i) := HC
      clear c0 c1 c2 c3 c4 c5 lt
      go_wp2
      go_loopw [10] (fun vi wr => ClRel2 p lo hi L w x (nameW n) i vi wr) (fun j _ => (i - intOf j).toNat)
      case atStart => exact ⟨0, M, rfl, Nat.zero_le _, HR.out, HC2.out⟩
      case round =>
        obtain ⟨j, M, rfl, hji, hR2, hC2⟩ := hrel
        have HR2 := Lib.hid hR2
        have HC := Lib.hid hC2
        have ⟨c0, c1, c2, c3, c4, c5, lt⟩ := hR2.pb.plc
        have e3 := Lib.hid (h64 j (by omega))
        clear hR2 hC2 HR HC2 e2
        by_cases hlt2 : j < i
        · have hlt3 : (j : Int) < i := by omega
          have hyes := HC.out.yes hlt2 hkt
          replace hyes := Lib.hid hyes
          go_wp2_with (go_at_call 23; refine (hheld_PT p HP.out n (by omega) _).mono ?_; rintro e w2 ⟨v1, F1, rfl, hx2, hp1, hbn1, hsub1⟩; refine Hid.out ?_)
          refine Lib.hid ?_
          have HOF1 := Lib.hid (fun j (hj : F1 j) => (hsub1 j hj).elim (fun h => h.elim) fun h => (.inr (Nat.le_trans HR2.out.m.top h) : j < lo ∨ hi ≤ j))
          have HI2 := Lib.hid (HR2.out.ext hx2)
          have HP1 := Lib.hid hp1
          have HBN1 := Lib.hid hbn1
          clear hx2 hp1 hbn1 hsub1
          go_wp2_with (go_at_call 21; refine (cap_int HI2.out.m 0 1#64 (by omega) (by rw [HI2.out.mg.n]; omega) (Lib.hid HI2.out.mg.e)).mono ?_; rintro e w3 ⟨rfl, hx3⟩; refine Hid.out ?_)
          refine Lib.hid ?_
          have HI3 := Lib.hid (HI2.out.ext hx3)
          replace HP1 := Lib.hid (HP1.out.agr (Agr.of_ext hx3 HBN1.out))
          replace HBN1 := Lib.hid (HBN1.out.ext hx3.size)
          clear hx3
          go_wp2_with (go_at_call 22; refine (runHldH p HP.out HI3.out.mg n hn 99 (by omega) (by omega) F1 v1 w3 HP1.out HBN1.out HOF1.out HI3.out.m).mono ?_; rintro e w4 ⟨M1, b, c, rfl, hm4, hf4, hz4, hr4⟩; refine Hid.out ?_)
          refine Lib.hid ?_
          have hb : b = true := by
            have h := hyes.out
            rw [hr4] at h
            exact h
          subst hb
          have HI4 := Lib.hid (HI3.out.ran hm4 hf4 hz4.1 (by omega) hlo1)
          have HC4 := Lib.hid (HC.out.same hz4.2)
          clear hm4 hf4 hz4 hr4 HP1 HBN1 HOF1 HI2 HI3 HR2 HC hyes c0 c1 c2 c3 c4 c5 lt
          have ⟨c0, c1, c2, c3, c4, c5, lt⟩ := HI4.out.pb.plc
          go_wp2_with (go_at_call 25; refine (hclear_PT p j _).mono ?_; rintro e w5 ⟨v1, F1, rfl, hx2, hp1, hbn1, hsub1⟩; refine Hid.out ?_)
          refine Lib.hid ?_
          have HOF1 := Lib.hid (fun j (hj : F1 j) => (hsub1 j hj).elim (fun h => h.elim) fun h => (.inr (Nat.le_trans HI4.out.m.top h) : j < lo ∨ hi ≤ j))
          have HI5 := Lib.hid (HI4.out.ext hx2)
          have HP1 := Lib.hid hp1
          have HBN1 := Lib.hid hbn1
          clear hx2 hp1 hbn1 hsub1
          go_wp2_with (go_at_call 21; refine (cap_int HI5.out.m 0 1#64 (by omega) (by rw [HI5.out.mg.n]; omega) (Lib.hid HI5.out.mg.e)).mono ?_; rintro e w6 ⟨rfl, hx3⟩; refine Hid.out ?_)
          refine Lib.hid ?_
          have HI6 := Lib.hid (HI5.out.ext hx3)
          replace HP1 := Lib.hid (HP1.out.agr (Agr.of_ext hx3 HBN1.out))
          replace HBN1 := Lib.hid (HBN1.out.ext hx3.size)
          clear hx3
          go_wp2_with (go_at_call 19; refine (runClrH p HP.out HI6.out.mg j (by omega) (by omega) F1 v1 w6 HP1.out HBN1.out HOF1.out HI6.out.m).mono ?_; rintro e w7 ⟨M2, rfl, hm7, hf7, hz7⟩; refine Hid.out ?_)
          refine Lib.hid ?_
          have HI7 := Lib.hid (HI6.out.ran hm7 hf7 hz7.mg (by omega) hlo1)
          have HC7 := Lib.hid (HC4.out.clr hkt hz7)
          clear hm7 hf7 hz7 HP1 HBN1 HOF1 HI5 HI6 HI4 HC4 c0 c1 c2 c3 c4 c5 lt
          go_wp2
          exact ⟨⟨j + 1, M2, by first | exact congrArg _ e3.out | rfl, by omega, HI7.out, HC7.out⟩, by simp [intOf]; omega⟩
        · obtain rfl : j = i := by omega
          have hno := Lib.hid (HC.out.no hnm.out)
          go_wp2_with (go_at_call 23; refine (hheld_PT p HP.out n (by omega) _).mono ?_; rintro e w2 ⟨v1, F1, rfl, hx2, hp1, hbn1, hsub1⟩; refine Hid.out ?_)
          refine Lib.hid ?_
          have HOF1 := Lib.hid (fun j (hj : F1 j) => (hsub1 j hj).elim (fun h => h.elim) fun h => (.inr (Nat.le_trans HR2.out.m.top h) : j < lo ∨ hi ≤ j))
          have HI2 := Lib.hid (HR2.out.ext hx2)
          have HP1 := Lib.hid hp1
          have HBN1 := Lib.hid hbn1
          clear hx2 hp1 hbn1 hsub1
          go_wp2_with (go_at_call 21; refine (cap_int HI2.out.m 0 1#64 (by omega) (by rw [HI2.out.mg.n]; omega) (Lib.hid HI2.out.mg.e)).mono ?_; rintro e w3 ⟨rfl, hx3⟩; refine Hid.out ?_)
          refine Lib.hid ?_
          have HI3 := Lib.hid (HI2.out.ext hx3)
          replace HP1 := Lib.hid (HP1.out.agr (Agr.of_ext hx3 HBN1.out))
          replace HBN1 := Lib.hid (HBN1.out.ext hx3.size)
          clear hx3
          go_wp2_with (go_at_call 22; refine (runHldH p HP.out HI3.out.mg n hn 99 (by omega) (by omega) F1 v1 w3 HP1.out HBN1.out HOF1.out HI3.out.m).mono ?_; rintro e w4 ⟨M1, b, c, rfl, hm4, hf4, hz4, hr4⟩; refine Hid.out ?_)
          refine Lib.hid ?_
          have hbc : (b, c) = (false, (3 * p.t).toNat) := hr4.symm.trans hno.out
          obtain ⟨rfl, hc⟩ := Prod.mk.inj hbc
          have hc2 : (c : Int) = 3 * p.t := by omega
          rw [hc2]
          have HI4 := Lib.hid (HI3.out.ran hm4 hf4 hz4.1 (by omega) hlo1)
          clear hm4 hf4 hz4 hr4 HP1 HBN1 HOF1 HI2 HI3 HR2 HC hno hbc hc hc2 c0 c1 c2 c3 c4 c5 lt
          have ⟨c0, c1, c2, c3, c4, c5, lt⟩ := HI4.out.pb.plc
          go_wp2
          go_ret
          exact Ret.bool (by simp) HI4.out.ex
end Go.Proofs.Ytkjbfhcgldgkaaa
