/-
  The law FreeMany, walked. Conditions: those of each theorem.
-/
import Derived.Test.YtpidmbclgfnekaaGay
import Derived.ProofKit
import Derived.OpenShut
import Derived.Lib.SmallJoins
namespace Go.Proofs.Ytpidmbclgfnekaa
open Go Go.RowKit

set_option maxRecDepth 8000 in
set_option maxHeartbeats 1000000 in
theorem many_nofew (p : Pl) (a a2 : Option Addr) (n c m c2 : Nat) (hf : ¬ p.few) (w : World) : Calls Try.prog 3 #[plV p, .slice a n c, .slice a2 m c2] w (Ret (.bool true) w) := by
  have HFW := Lib.hid hf
  clear hf
  go_enter Try.func3, Try.ntmps3
  go_wp2_with (first
    | (go_at_call 4; refine (fwake_any _).mono ?_; rintro e w' hr; obtain ⟨rfl, s, rfl⟩ := hr.over; clear hr)
    | (go_at_call 5; refine (few_any p _ false (hid_no HFW.out)).mono ?_; rintro e w' hr; obtain ⟨rfl, s, rfl⟩ := hr.over; clear hr))
  go_ret
  exact Ret.mk (by repeat (first | exact ext_refl _ | apply ext_over | apply ext_alloc))
set_option maxRecDepth 8000 in
set_option maxHeartbeats 1000000 in
theorem many_noform (p : Pl) (a a2 : Option Addr) (n c m c2 : Nat) (hf : p.few) (hp : ¬ p.ok) (w : World) : Calls Try.prog 3 #[plV p, .slice a n c, .slice a2 m c2] w (Ret (.bool true) w) := by
  have HFW := Lib.hid hf
  clear hf
  have HP := Lib.hid hp
  clear hp
  go_enter Try.func3, Try.ntmps3
  go_wp2_with (first
    | (go_at_call 4; refine (fwake_any _).mono ?_; rintro e w' hr; obtain ⟨rfl, s, rfl⟩ := hr.over; clear hr)
    | (go_at_call 5; refine (few_any p _ true (hid_yes HFW.out)).mono ?_; rintro e w' hr; obtain ⟨rfl, s, rfl⟩ := hr.over; clear hr)
    | (go_at_call 6; refine (rformed_any p _ false (hid_no HP.out)).mono ?_; rintro e w' hr; obtain ⟨rfl, s, rfl⟩ := hr.over; clear hr))
  go_ret
  exact Ret.mk (by repeat (first | exact ext_refl _ | apply ext_over | apply ext_alloc))
set_option maxRecDepth 8000 in
set_option maxHeartbeats 1000000 in
theorem many_more (p : Pl) (a a2 : Option Addr) (n c m c2 : Nat) (hf : p.few) (hp : p.ok) (hn : 4 < n) (w : World) : Calls Try.prog 3 #[plV p, .slice a n c, .slice a2 m c2] w (Ret (.bool true) w) := by
  have HFW := Lib.hid hf
  clear hf
  have HP := Lib.hid hp
  clear hp
  have q1 : decide (4 < (n : Int)) = true := by simp; omega
  go_enter Try.func3, Try.ntmps3
  go_wp2_with (first
    | (go_at_call 4; refine (fwake_any _).mono ?_; rintro e w' hr; obtain ⟨rfl, s, rfl⟩ := hr.over; clear hr)
    | (go_at_call 5; refine (few_any p _ true (hid_yes HFW.out)).mono ?_; rintro e w' hr; obtain ⟨rfl, s, rfl⟩ := hr.over; clear hr)
    | (go_at_call 6; refine (rformed_any p _ true (hid_yes HP.out)).mono ?_; rintro e w' hr; obtain ⟨rfl, s, rfl⟩ := hr.over; clear hr))
  go_ret
  exact Ret.mk (by repeat (first | exact ext_refl _ | apply ext_over | apply ext_alloc))
set_option maxRecDepth 8000 in
set_option maxHeartbeats 1000000 in
theorem many_none (p : Pl) (a a2 : Option Addr) (n c m c2 : Nat) (hf : p.few) (hp : p.ok) (hn : n = 0) (w : World) : Calls Try.prog 3 #[plV p, .slice a n c, .slice a2 m c2] w (Ret (.bool true) w) := by
  have HFW := Lib.hid hf
  clear hf
  have HP := Lib.hid hp
  clear hp
  subst hn
  go_enter Try.func3, Try.ntmps3
  go_wp2_with (first
    | (go_at_call 4; refine (fwake_any _).mono ?_; rintro e w' hr; obtain ⟨rfl, s, rfl⟩ := hr.over; clear hr)
    | (go_at_call 5; refine (few_any p _ true (hid_yes HFW.out)).mono ?_; rintro e w' hr; obtain ⟨rfl, s, rfl⟩ := hr.over; clear hr)
    | (go_at_call 6; refine (rformed_any p _ true (hid_yes HP.out)).mono ?_; rintro e w' hr; obtain ⟨rfl, s, rfl⟩ := hr.over; clear hr))
  go_ret
  exact Ret.mk (by repeat (first | exact ext_refl _ | apply ext_over | apply ext_alloc))
set_option maxRecDepth 8000 in
set_option maxHeartbeats 1000000 in
theorem many_long (p : Pl) (a a2 : Option Addr) (n c m c2 : Nat) (hf : p.few) (hp : p.ok) (hn : n ≤ 4) (hn1 : 1 ≤ n) (hm : 200 < m) (w : World) : Calls Try.prog 3 #[plV p, .slice a n c, .slice a2 m c2] w (Ret (.bool true) w) := by
  have HFW := Lib.hid hf
  clear hf
  have HP := Lib.hid hp
  clear hp
  have q1 : decide (4 < (n : Int)) = false := by simp; omega
  have q2 : ((n : Int) == 0) = false := by simp; omega
  have q4 : (n == 0) = false := by simp; omega
  have q5 : ¬ n = 0 := by omega
  have q3 : decide (200 < (m : Int)) = true := by simp; omega
  go_enter Try.func3, Try.ntmps3
  go_wp2_with (first
    | (go_at_call 4; refine (fwake_any _).mono ?_; rintro e w' hr; obtain ⟨rfl, s, rfl⟩ := hr.over; clear hr)
    | (go_at_call 5; refine (few_any p _ true (hid_yes HFW.out)).mono ?_; rintro e w' hr; obtain ⟨rfl, s, rfl⟩ := hr.over; clear hr)
    | (go_at_call 6; refine (rformed_any p _ true (hid_yes HP.out)).mono ?_; rintro e w' hr; obtain ⟨rfl, s, rfl⟩ := hr.over; clear hr))
  go_ret
  exact Ret.mk (by repeat (first | exact ext_refl _ | apply ext_over | apply ext_alloc))
theorem Try.infoThr : (Try.prog.info? 32).map (fun i => (i.zero, i.size, i.bytes)) = some (some (.pointer none), 1, 8) := by kernel_rfl
def PtRel (w w1 : World) (cs : List (List Bool)) (v vi : Value) (wr : World) : Prop := ∃ (k : Nat) (Bf : Nat → Nat), vi = .int .i64 (k : Int) ∧ k ≤ cs.length ∧ PtIn w w1 cs k v Bf wr ∧ ∀ j, j < k → (bsN cs j).length ≤ 12
def PmRel (p : Pl) (lo hi base bl n : Nat) (L : Lay) (w : World) (Bf : Nat → Nat) (m : Nat) (vi : Value) (wr : World) : Prop := ∃ (i : Nat) (M : MS) (l : List Int) (T : Nat) (ts : List TS) (Ff : Nat → Nat → Prop) (gf : Nat → Option Nat), vi = .int .i64 (i : Int) ∧ i ≤ m + 400 ∧ LwIn p lo hi base bl 0 n L w Bf M l T ts Ff gf wr ∧ LwPh m n i M T ts
def PxRel (w1 : World) (m : Nat) (vi : Value) (wr : World) : Prop := ∃ x : Nat, vi = .int .i64 (x : Int) ∧ x ≤ m ∧ Ext w1 wr
def PyRel (w1 : World) (ts : List TS) (x : Int) (n : Nat) (vh vi : Value) (wr : World) : Prop := ∃ j : Nat, vi = .int .i64 (j : Int) ∧ j ≤ n ∧ vh = .int .i64 (hadT ts x j : Int) ∧ Ext w1 wr
def PzRel (w1 : World) (ts : List TS) (l : List Int) (x : Int) (n : Nat) (vh vi : Value) (wr : World) : Prop := ∃ j : Nat, vi = .int .i64 (j : Int) ∧ j ≤ l.length ∧ vh = .int .i64 ((hadT ts x n + hadL l x j : Nat) : Int) ∧ Ext w1 wr
set_option maxRecDepth 8000 in
set_option maxHeartbeats 4000000 in
theorem many_yes (p : Pl) (hf : p.few) (hp : p.ok) (cs : List (List Bool)) (m : Nat) (xs : Nat → Nat → Int) (vc vp : Value) (w : World) (hcs : Bss w vc cs) (hxs : Rs 1 (fun _ => .u8) w vp m xs) (hn1 : 1 ≤ cs.length) (hn4 : cs.length ≤ 4) (hm : m ≤ 200) : Calls Try.prog 3 #[plV p, vc, vp] w (Ret (.bool true) w) := by
  have HFW := Lib.hid hf
  have HP := Lib.hid hp
  have HCS := Lib.hid hcs
  have HXS := Lib.hid hxs
  have hpn : 1 ≤ p.n ∧ p.n ≤ 40 := ⟨hp.1.1, (hf hp).1⟩
  obtain ⟨a, c, rfl, _, _⟩ := hcs
  obtain ⟨a2, c2, rfl, _, _⟩ := hxs
  clear hf hp
  obtain ⟨n, hn⟩ : ∃ n, Hid (cs.length = n) := ⟨_, Lib.hid rfl⟩
  rw [hn.out] at HCS hn1 hn4 ⊢
  have q1 : decide (4 < (n : Int)) = false := by simp; omega
  have q2 : ((n : Int) == 0) = false := by simp; omega
  have q4 : (n == 0) = false := by simp; omega
  have q5 : ¬ n = 0 := by omega
  have q3 : decide (200 < (m : Int)) = false := by simp; omega
  obtain ⟨iR, hiR, hz0, hz1, hz2⟩ := info_parts Try.infoThr
  go_enter Try.func3, Try.ntmps3
  go_wp2_with (first
    | (go_at_call 4; refine (fwake_any _).mono ?_; rintro e w' hr; obtain ⟨rfl, s, rfl⟩ := hr.over; clear hr)
    | (go_at_call 5; refine (few_any p _ true (hid_yes HFW.out)).mono ?_; rintro e w' hr; obtain ⟨rfl, s, rfl⟩ := hr.over; clear hr)
    | (go_at_call 6; refine (rformed_any p _ true (hid_yes HP.out)).mono ?_; rintro e w' hr; obtain ⟨rfl, s, rfl⟩ := hr.over; clear hr)
    | (go_at_call 7; refine Hid.out ?_))
  refine Lib.hid ?_
  refine (laidZ_any p HP.out _).mono ?_
  rintro e w1 ⟨lo, hi, L, M, rfl, hM, hF, hx, hlo⟩
  have hx1 : Ext (w.alloc (.cells #[.int .i64 p.n, .int .i64 p.t, .int .i64 p.r, .int .i64 p.d, .int .i64 p.b, .int .i64 p.g] 23)) w1 := by
    refine ext_trans ?_ hx
    repeat (first | exact ext_refl _ | apply ext_over)
  have hlo1 : w.heap.size < lo := by
    refine Nat.lt_of_lt_of_le ?_ hlo
    refine Nat.lt_of_lt_of_le (m := (w.alloc (.cells #[.int .i64 p.n, .int .i64 p.t, .int .i64 p.r, .int .i64 p.d, .int .i64 p.b, .int .i64 p.g] 23)).heap.size) (by simp) ?_
    first | exact over_size _ _ | exact Nat.le_trans (over_size _ _) (over_size _ _) | exact Nat.le_trans (over_size _ _) (Nat.le_trans (over_size _ _) (over_size _ _))
  have hb0 : PBox w.heap.size p w1 := (hx1.block _ (by simp)).trans (heap_at w _ _ rfl)
  have hE1 : Ext w w1 := ext_trans (ext_alloc _ (ext_refl w)) hx1
  have HM1 := Lib.hid hM
  have HF1 := Lib.hid hF.1
  have HB1 := Lib.hid hb0
  have HE1 := Lib.hid hE1
  clear hM hF hx hx1 hlo hb0 hE1 q1 q2 q3 q4
  have HS : Hid (PtIn w w1 cs 0 (.slice none 0 0) (fun _ => 0) w1) := Lib.hid ⟨ext_refl _, ⟨rfl, .inl ⟨rfl, rfl⟩⟩, fun i hi => absurd hi (Nat.not_lt_zero _), fun i j hi => absurd hi (Nat.not_lt_zero _)⟩
  go_wp2
  go_loopw [8, 9] (fun v vi wr => PtRel w w1 cs v vi wr) (fun _ vi _ => (n - intOf vi).toNat)
  case atStart => exact ⟨0, _, rfl, Nat.zero_le _, HS.out, fun j hj => absurd hj (Nat.not_lt_zero _)⟩
  case round =>
    clear HS
    obtain ⟨k, Bf, rfl, hk, hR, h12⟩ := hrel
    rw [hn.out] at hk
    have HR := Lib.hid hR
    have H12 := Lib.hid h12
    clear hR h12
    by_cases hlt : k < n
    · have hlt' : (k : Int) < n := by omega
      obtain ⟨b, o, u, rfl, hbl, hcell, hBu⟩ := HCS.out.at (i := k) (by rw [hn.out]; exact hlt)
      have HBU := Lib.hid hBu
      obtain ⟨ua, uc, rfl, _, _⟩ := hBu
      have hEr := ext_trans HE1.out HR.out.ex
      replace hcell := ext_cell hEr hcell
      replace hbl := cell_lt hcell
      have HEr := Lib.hid hEr
      clear hEr
      by_cases h12 : 12 < (bsN cs k).length
      · have d1 : decide (12 < ((bsN cs k).length : Int)) = true := by simp; omega
        go_wp2
        go_ret
        exact Ret.mk HEr.out
      · have d1 : decide (12 < ((bsN cs k).length : Int)) = false := by simp; omega
        have HH12 : Hid ((bsN cs k).length ≤ 12) := Lib.hid (by omega)
        clear h12
        have hxa := ext_alloc (.cells #[.pointer (some ⟨wr.heap.size, 0, none⟩)] 32) (ext_alloc (.cells #[.slice ua (bsN cs k).length uc, .int .i64 0, .bool false, .bool false, .int .i64 0, .int .i64 0, .int .i64 0, .int .u64 0, .int .u64 0, .nilFunc, .pointer none, .slice none 0 0] 42) (ext_refl wr))
        have HO := Lib.hid (own_ext' HR.out.own hxa)
        have hsz1 := HR.out.ex.size
        have HXA := Lib.hid hxa
        clear hxa
        go_wp2_with (at_builtin; refine wpList_append_own _ rfl (.tmp 62) (.tmp 69) 30 rfl w1.heap.size 32 iR (.pointer none) 1 8 Try.underlying30 hiR hz0 hz1 hz2 rfl (by decide) _ k (ptrs Bf k) rfl HO.out ⟨wr.heap.size + 1, 0, none⟩ 1 1 [.pointer (some ⟨wr.heap.size, 0, none⟩)] rfl rfl (newp _ _ _ _ (by simp)) (onep _) (by unfold maxLen; omega) (by omega) (by simp; omega) ?_; intro v2 w2 hv2 hg2 hn2; have HV := Lib.hid hv2; have HG2 := Lib.hid hg2; clear hv2 hg2 hn2)
        have HT : Hid (ThNew wr.heap.size (.slice ua (bsN cs k).length uc) ((wr.alloc (.cells #[.slice ua (bsN cs k).length uc, .int .i64 0, .bool false, .bool false, .int .i64 0, .int .i64 0, .int .i64 0, .int .u64 0, .int .u64 0, .nilFunc, .pointer none, .slice none 0 0] 42)).alloc (.cells #[.pointer (some ⟨wr.heap.size, 0, none⟩)] 32))) := Lib.hid ((Below.heap_alloc _ _ _ (by simp)).trans (heap_at wr _ _ rfl))
        exact ⟨⟨k + 1, _, by go_num, by rw [hn.out]; omega, HR.out.step HXA.out (Nat.le_refl _) HT.out HBU.out HG2.out HV.out, fun j hj => by by_cases e : j = k; subst e; exact HH12.out; exact H12.out j (by omega)⟩, by simp [intOf]; omega⟩
    · obtain rfl : k = n := by omega
      have h12a := H12.out
      obtain ⟨bl, cap, rfl, hA, hLW⟩ := lw_begin HR.out hn.out.symm hn1 HM1.out HF1.out HE1.out HB1.out hlo1
      have HA := Lib.hid hA
      have HL0 := Lib.hid hLW
      have hPH0 : LwPh m k 0 M 0 (cs.map fun ps => ⟨ps, 0, false, false, .pl, 0, []⟩) := by
        refine ⟨by rw [List.length_map]; exact hn.out, Nat.le_refl _, fun t ht hb => ?_, fun t ht => ?_, fun j _ hj => by omega, fun j _ h1 h2 => .inr ?_⟩
        · obtain ⟨ps, _, rfl⟩ := List.mem_map.1 ht
          cases hb
        · obtain ⟨ps, hps, rfl⟩ := List.mem_map.1 ht
          obtain ⟨j, hj, rfl⟩ := List.getElem_of_mem hps
          have h3 := h12a j (by rw [← hn.out]; exact hj)
          have h4 : bsN cs j = cs[j] := by simp [bsN, List.getD_eq_getElem?_getD, hj]
          rw [h4] at h3
          exact h3
        · have h3 := (tsN (cs.map fun ps => (⟨ps, 0, false, false, .pl, 0, []⟩ : TS)) j).mu_le M
          have h4 : (tsN (cs.map fun ps => (⟨ps, 0, false, false, .pl, 0, []⟩ : TS)) j).ps.length ≤ 12 := by
            refine tsN_le (fun t ht => ?_) j
            obtain ⟨ps, hps, rfl⟩ := List.mem_map.1 ht
            obtain ⟨j, hj, rfl⟩ := List.getElem_of_mem hps
            have h3 := h12a j (by rw [← hn.out]; exact hj)
            have h4 : bsN cs j = cs[j] := by simp [bsN, List.getD_eq_getElem?_getD, hj]
            rw [h4] at h3
            exact h3
          omega
      have HPH0 := Lib.hid hPH0
      obtain ⟨base, hbase⟩ : ∃ b, Hid (wr.heap.size = b) := ⟨_, Lib.hid rfl⟩
      rw [hbase.out] at HA HL0
      clear hA hLW hPH0 h12a H12 HCS HM1 HF1 HB1 HE1 HR hbase hlt hk hiR hz0 hz1 hz2
      go_wp2
      go_loopw [10] (fun vi wr => PmRel p lo hi base bl k L w Bf m vi wr) (fun vi _ => (m + 400 - intOf vi).toNat)
      case atStart => exact ⟨0, M, _, 0, _, _, _, rfl, Nat.zero_le _, HL0.out, HPH0.out⟩
      case round =>
        clear HL0 HPH0
        obtain ⟨i, M, l, T, ts, Ff, gf, rfl, hi, hR, hPH⟩ := hrel
        have HR := Lib.hid hR
        have HPH := Lib.hid hPH
        clear hR hPH
        have ⟨c0, c1, c2, c3, c4, c5, lt⟩ := HR.out.pb.plc
        by_cases hlt : i < m + 400
        · have hlt' : (i : Int) < (m : Int) + 400 := by omega
          obtain ⟨q0, hq0⟩ : ∃ q0 : Int, Hid (Int.tmod (i : Int) (k : Int) = q0) := ⟨_, Lib.hid rfl⟩
          have hq0r : 0 ≤ q0 ∧ q0 < (k : Int) := by
            have h1 := hq0.out
            rw [Int.tmod_eq_emod_of_nonneg (by omega)] at h1
            have h2 := Int.emod_nonneg (i : Int) (show (k : Int) ≠ 0 by omega)
            have h3 := Int.emod_lt_of_pos (i : Int) (show (0 : Int) < (k : Int) by omega)
            omega
          have hq0a := hq0r.1
          have hq0b := hq0r.2
          have hq0n : q0.toNat < k := by omega
          have d0 := HR.out.row q0.toNat hq0n
          rw [Nat.zero_add] at d0
          have dl := cell_lt d0
          have e0 := hq0.out
          have hk0 : ¬ (k : Int) = 0 := by omega
          by_cases him : i < m
          · have him' : (i : Int) < (m : Int) := by omega
            obtain ⟨pb_, po, rfl, hpl, hpc⟩ := HXS.out.at (by omega)
            have f0 := (hpc i him 0 (by omega)).1
            have fw := (hpc i him 0 (by omega)).2
            rw [Nat.mul_one, Nat.add_zero] at f0
            obtain ⟨x, hx⟩ : ∃ x, x = xs i 0 := ⟨_, rfl⟩
            rw [← hx] at f0 fw
            have fb := bounds_u8 fw
            replace f0 := ext_cell HR.out.ex f0
            replace hpl := cell_lt f0
            clear hpc fw hx
            obtain ⟨q1, hq1⟩ : ∃ q1 : Int, Hid (Int.tmod x (k : Int) = q1) := ⟨_, Lib.hid rfl⟩
            have hq1r : 0 ≤ q1 ∧ q1 < (k : Int) := by
              have h1 := hq1.out
              rw [Int.tmod_eq_emod_of_nonneg fb.1] at h1
              have h2 := Int.emod_nonneg x (show (k : Int) ≠ 0 by omega)
              have h3 := Int.emod_lt_of_pos x (show (0 : Int) < (k : Int) by omega)
              omega
            have hq1a := hq1r.1
            have hq1b := hq1r.2
            have hq1n : q1.toNat < k := by omega
            have d1 := HR.out.row q1.toNat hq1n
            rw [Nat.zero_add] at d1
            have e1 := hq1.out
            have fb1 := fb.1
            have fb2 := fb.2
            have HCK : m ≤ i → (i - m) / 100 < k → q1.toNat = (i - m) / 100 := fun h => by omega
            have HLW := Lib.hid (lw_pick (K := 699 - i) HP.out HA.out HR.out (k := q1.toNat) hq1n (by have := HPH.out.tt; omega) (fun hb => by have := HPH.out.nb _ (tsN_mem (by rw [HPH.out.ln]; exact hq1n)) hb; omega) (tsN_le HPH.out.le _))
            go_wp2_with (go_at_call 8; refine HLW.out.mono ?_; rintro e w2 ⟨M', l', T', t', Ff', gf', rfl, hL', hT', hmu', hN', hps'⟩; refine Hid.out ?_)
            refine Lib.hid ?_
            have HPN := Lib.hid (HPH.out.step (by omega) (by omega) hq1n HCK hT' hmu' hN' hps')
            have HRN := Lib.hid hL'
            clear hL' hT' hmu' hN' hps' HLW c0 c1 c2 c3 c4 c5 lt
            have ⟨c0, c1, c2, c3, c4, c5, lt⟩ := HRN.out.pb.plc
            go_wp2_with (go_at_call 9; refine (lw_apart HP.out HRN.out (by omega) _).mono ?_; rintro e w3 ⟨rfl, hx⟩; have HRX := Lib.hid (HRN.out.ext hx); clear hx)
            exact ⟨⟨i + 1, M', l', T', _, Ff', gf', by go_num, by omega, HRX.out, HPN.out⟩, by simp [intOf]; omega⟩
          · have him' : (m : Int) ≤ (i : Int) := by omega
            obtain ⟨q2, hq2⟩ : ∃ q2 : Nat, Hid ((i - m) / 100 = q2) := ⟨_, Lib.hid rfl⟩
            have hq2e : Int.tdiv ((i : Int) - (m : Int)) 100 = (q2 : Int) := by
              rw [Int.tdiv_eq_ediv_of_nonneg (by omega), ← hq2.out]
              omega
            have hq2r : (q2 : Int) ≤ 4 := by have := hq2.out; omega
            have hdm : decide ((i : Int) < (m : Int)) = false := by simp; omega
            by_cases hqk : q2 < k
            · have hqk' : (q2 : Int) < (k : Int) := by omega
              have d1 := HR.out.row q2 hqk
              rw [Nat.zero_add] at d1
              have HCK : m ≤ i → (i - m) / 100 < k → q2 = (i - m) / 100 := fun _ _ => hq2.out.symm
              have HLW := Lib.hid (lw_pick (K := 699 - i) HP.out HA.out HR.out (k := q2) hqk (by have := HPH.out.tt; omega) (fun hb => by have := HPH.out.nb _ (tsN_mem (by rw [HPH.out.ln]; exact hqk)) hb; omega) (tsN_le HPH.out.le _))
              go_wp2_with (go_at_call 8; refine HLW.out.mono ?_; rintro e w2 ⟨M', l', T', t', Ff', gf', rfl, hL', hT', hmu', hN', hps'⟩; refine Hid.out ?_)
              refine Lib.hid ?_
              have HPN := Lib.hid (HPH.out.step (by omega) (by omega) hqk HCK hT' hmu' hN' hps')
              have HRN := Lib.hid hL'
              clear hL' hT' hmu' hN' hps' HLW c0 c1 c2 c3 c4 c5 lt
              have ⟨c0, c1, c2, c3, c4, c5, lt⟩ := HRN.out.pb.plc
              go_wp2_with (go_at_call 9; refine (lw_apart HP.out HRN.out (by omega) _).mono ?_; rintro e w3 ⟨rfl, hx⟩; have HRX := Lib.hid (HRN.out.ext hx); clear hx)
              exact ⟨⟨i + 1, M', l', T', _, Ff', gf', by go_num, by omega, HRX.out, HPN.out⟩, by simp [intOf]; omega⟩
            · have hqk' : ¬ (q2 : Int) < (k : Int) := by omega
              have HCK : m ≤ i → (i - m) / 100 < k → q0.toNat = (i - m) / 100 := fun _ h => absurd h (by rw [hq2.out]; exact hqk)
              have HLW := Lib.hid (lw_pick (K := 699 - i) HP.out HA.out HR.out (k := q0.toNat) hq0n (by have := HPH.out.tt; omega) (fun hb => by have := HPH.out.nb _ (tsN_mem (by rw [HPH.out.ln]; exact hq0n)) hb; omega) (tsN_le HPH.out.le _))
              go_wp2_with (go_at_call 8; refine HLW.out.mono ?_; rintro e w2 ⟨M', l', T', t', Ff', gf', rfl, hL', hT', hmu', hN', hps'⟩; refine Hid.out ?_)
              refine Lib.hid ?_
              have HPN := Lib.hid (HPH.out.step (by omega) (by omega) hq0n HCK hT' hmu' hN' hps')
              have HRN := Lib.hid hL'
              clear hL' hT' hmu' hN' hps' HLW c0 c1 c2 c3 c4 c5 lt
              have ⟨c0, c1, c2, c3, c4, c5, lt⟩ := HRN.out.pb.plc
              go_wp2_with (go_at_call 9; refine (lw_apart HP.out HRN.out (by omega) _).mono ?_; rintro e w3 ⟨rfl, hx⟩; have HRX := Lib.hid (HRN.out.ext hx); clear hx)
              exact ⟨⟨i + 1, M', l', T', _, Ff', gf', by go_num, by omega, HRX.out, HPN.out⟩, by simp [intOf]; omega⟩
        · obtain rfl : i = m + 400 := by omega
          have HTH : Hid (∀ j, j < k → (tsN ts j).thr) := Lib.hid fun j hj => HPH.out.ph j hj (by omega)
          have HON : Hid (∀ x : Nat, (x : Int) < p.n → hadT ts (x : Int) k + hadL l (x : Int) l.length = 1) := Lib.hid fun x hx => by
            have h1 := had_one HP.out HR.out.g (x := (x : Int)) (by omega) hx
            rw [HPH.out.ln] at h1
            exact h1
          have hln := HR.out.g.ln
          rw [List.length_append] at hln
          have hll : l.length ≤ 40 := by omega
          have HML : Hid (∀ j, j < k → (tsN ts j).mine.length ≤ 40) := Lib.hid fun j hj => by
            have hjl : j < ts.length := by rw [HPH.out.ln]; exact hj
            have h1 : (ts.flatMap TS.mine).length ≤ 40 := by omega
            rw [← ts_split hjl, flat_mid, List.length_append, List.length_append] at h1
            omega
          clear hln
          go_wp2_with (go_at_call 10; refine (flist_any p HP.out l T HR.out.g.fl HR.out.m).mono ?_; rintro e w2 ⟨v2, rfl, hv2, hx2⟩; refine Hid.out ?_)
          refine Lib.hid ?_
          have HRL := Lib.hid hv2.is
          obtain ⟨ra, rc, rfl⟩ := hv2.slice
          have HR2 := Lib.hid (HR.out.ext hx2)
          clear hv2 hx2 HR HPH hlt c0 c1 c2 c3 c4 c5 lt
          go_wp2
          go_loopw [14] (fun vi wr => PxRel w2 p.n.toNat vi wr) (fun vi _ => (p.n - intOf vi).toNat)
          case atStart => exact ⟨0, rfl, Nat.zero_le _, ext_refl _⟩
          case round =>
            obtain ⟨x, rfl, hx, hX⟩ := hrel
            have HX := Lib.hid hX
            clear hX
            have ⟨c0, c1, c2, c3, c4, c5, lt⟩ := (HR2.out.ext HX.out).pb.plc
            by_cases hlt : (x : Int) < p.n
            · go_wp2
              go_loopw [15, 16] (fun vh vi wr => PyRel w2 ts (x : Int) k vh vi wr) (fun _ vi _ => (k - intOf vi).toNat)
              case atStart => exact ⟨0, rfl, Nat.zero_le _, rfl, HX.out⟩
              case round =>
                obtain ⟨j, rfl, hj, rfl, hY⟩ := hrel
                have HY := Lib.hid hY
                have hsy := hY.size
                clear hY c0 c1 c2 c3 c4 c5 lt
                have hhl := hadT_le ts (x : Int) j
                obtain ⟨h, hh⟩ : ∃ h, Hid (hadT ts (x : Int) j = h) := ⟨_, Lib.hid rfl⟩
                rw [hh.out] at hhl ⊢
                by_cases hjk : j < k
                · have hjk' : (j : Int) < (k : Int) := by omega
                  obtain ⟨pa, pc, vm, e0, e1, e2, e3, e4, e5⟩ := lw_cells (HR2.out.ext HY.out) hjk (HTH.out j hjk)
                  have HIs := Lib.hid e5
                  obtain ⟨va, vc', rfl, _, _⟩ := e5
                  have l1 := cell_lt e0
                  have l2 := cell_lt e1
                  have hml := HML.out j hjk
                  obtain ⟨tl, htl⟩ : ∃ tl, Hid ((tsN ts j).ps.length = tl) := ⟨_, Lib.hid rfl⟩
                  rw [htl.out] at e1 e2
                  go_wp2
                  refine wp_region_over (by kernel_rfl) (by kernel_rfl) ?_
                  repeat (go_big_quiet_step (fail))
                  refine wpQuiet_nil ?_
                  intro _ hw'
                  obtain ⟨s1, hw''⟩ := hw'
                  subst hw''
                  have hxo := over_below wr s1
                  replace HY := Lib.hid (ext_trans HY.out hxo)
                  replace HIs := Lib.hid (HIs.out.ext hxo)
                  replace e0 := ext_cell hxo e0
                  replace e4 := ext_cell hxo e4
                  replace l1 := cell_lt e0
                  replace l2 := cell_lt e4
                  clear hxo e1 e2 e3
                  generalize over wr s1 = wv at HY HIs e0 e4 l1 l2 ⊢
                  by_cases hmem : (x : Int) ∈ (tsN ts j).mine
                  · have HEQ : Hid (Value.int .i64 ((h : Int) + 1) = .int .i64 ((hadT ts (x : Int) (j + 1) : Nat) : Int)) := Lib.hid (by rw [hadT, hh.out, if_pos hmem]; simp)
                    have HMEM := Lib.hid hmem
                    clear hmem
                    go_wp2_with (go_at_call 11; refine (rhas_any _ (x : Int) _ _ true (hid_yes HMEM.out) (by omega) HIs.out).mono ?_; rintro e w3 ⟨rfl, hx⟩; have HX3 := Lib.hid (ext_trans HY.out hx); clear hx)
                    exact ⟨⟨j + 1, by go_num, by omega, by rw [← HEQ.out], HX3.out⟩, by simp [intOf]; omega⟩
                  · have HEQ : Hid (Value.int .i64 (h : Int) = .int .i64 ((hadT ts (x : Int) (j + 1) : Nat) : Int)) := Lib.hid (by rw [hadT, hh.out, if_neg hmem]; simp)
                    have HMEM := Lib.hid hmem
                    clear hmem
                    go_wp2_with (go_at_call 11; refine (rhas_any _ (x : Int) _ _ false (hid_no HMEM.out) (by omega) HIs.out).mono ?_; rintro e w3 ⟨rfl, hx⟩; have HX3 := Lib.hid (ext_trans HY.out hx); clear hx)
                    exact ⟨⟨j + 1, by go_num, by omega, HEQ.out, HX3.out⟩, by simp [intOf]; omega⟩
                · obtain rfl : j = k := by omega
                  have HS3 : Hid (PzRel w2 ts l (x : Int) j (.int .i64 (h : Int)) (.int .i64 0) wr) := Lib.hid ⟨0, rfl, Nat.zero_le _, by rw [hh.out]; rfl, HY.out⟩
                  clear HX HY hh hhl
                  go_wp2
                  go_loopw [15, 17] (fun vh vi wr => PzRel w2 ts l (x : Int) j vh vi wr) (fun _ vi _ => (l.length - intOf vi).toNat)
                  case atStart => exact HS3.out
                  case round =>
                    clear HS3
                    obtain ⟨y, rfl, hy, rfl, hZ⟩ := hrel
                    have HZ := Lib.hid hZ
                    have hsz := hZ.size
                    clear hZ
                    have hb1 := hadT_le ts (x : Int) j
                    have hb2 := hadL_le l (x : Int) y
                    by_cases hyl : y < l.length
                    · have hyl' : (y : Int) < (l.length : Int) := by omega
                      obtain ⟨h2, hh2⟩ : ∃ h2, Hid (hadT ts (x : Int) j + hadL l (x : Int) y = h2) := ⟨_, Lib.hid rfl⟩
                      rw [hh2.out]
                      have hb3 : h2 ≤ 100 := by have := hh2.out; omega
                      obtain ⟨rb, ro, rfl, hrb, hrc⟩ := (HRL.out.ext HZ.out).at (by omega)
                      have r0 := hrc y hyl
                      clear hrc hb1 hb2
                      obtain ⟨ny, hny⟩ : ∃ ny, Hid (iN l y = ny) := ⟨_, Lib.hid rfl⟩
                      rw [hny.out] at r0
                      by_cases e : ny = (x : Int)
                      · have d1 : (ny == (x : Int)) = true := by simp; exact e
                        have HEQ : Hid (Value.int .i64 ((h2 : Int) + 1) = .int .i64 ((hadT ts (x : Int) j + hadL l (x : Int) (y + 1) : Nat) : Int)) := Lib.hid (by rw [hadL, hny.out, if_pos e, ← Nat.add_assoc, hh2.out]; simp)
                        clear e
                        go_wp2
                        exact ⟨⟨y + 1, by go_num, by omega, by rw [← HEQ.out], HZ.out⟩, by simp [intOf]; omega⟩
                      · have d1 : (ny == (x : Int)) = false := by simp; exact e
                        have HEQ : Hid (Value.int .i64 (h2 : Int) = .int .i64 ((hadT ts (x : Int) j + hadL l (x : Int) (y + 1) : Nat) : Int)) := Lib.hid (by rw [hadL, hny.out, if_neg e, Nat.add_zero, hh2.out])
                        clear e
                        go_wp2
                        exact ⟨⟨y + 1, by go_num, by omega, HEQ.out, HZ.out⟩, by simp [intOf]; omega⟩
                    · obtain rfl : y = l.length := by omega
                      rw [HON.out x hlt]
                      clear hb1 hb2
                      go_wp2
                      exact ⟨⟨x + 1, by go_num, by omega, HZ.out⟩, by simp [intOf]; omega⟩
            · go_wp2
              go_ret
              exact Ret.mk (ext_trans HR2.out.ex HX.out)
end Go.Proofs.Ytpidmbclgfnekaa

/-
  A law's row, once for all: whoever shows that the call returns true and turns nothing old has the row's post; the arguments read as they did. Conditions: the row names no variable; its result is one bool; its parameters' types can be read.
-/
namespace Go.Proofs.Ytpidmbclgfnekaa
open Go Go.ChangeShapes Go.WideShapes Go.ChangeAt Go.RowKit Go.Joins

section
variable {H : Type} {enc : TypeId × Value → H} {P : Program}

/-- What reads in W reads in W' likewise, argument by argument. -/
theorem trodAll_below (hl : laidOutB P = true) {W W' : World} (hb : Below W.heap.size W W') :
    ∀ (ts : List TypeId) (vs : List Value) (ds : List (DataW H)) (ps : List MemPlace), (∀ t ∈ ts, P.readableRec t = true ∧ t < P.types.size) → (∀ x ∈ ps, x.block < W.heap.size) →
      DataW.TrodAll enc P W 0 (fun _ => true) true ts vs ds ps → DataW.TrodAll enc P W' 0 (fun b => decide (b < W.heap.size)) true ts vs ds ps
  | [], vs, ds, ps, _, _, h => by
    obtain ⟨rfl, rfl, rfl⟩ := trodAll_nil h
    exact trodAll_mk0
  | t :: ts, vs, ds, ps, hr, hlt, h => by
    obtain ⟨v, vs', d, ds', p, q, rfl, rfl, rfl, h1, h2⟩ := trodAll_cons h
    exact trodAll_cons_mk (Below.trod hl (hr t (by simp)).1 (hr t (by simp)).2 h1 hb (fun x hx => hlt x (List.mem_append.2 (.inl hx))))
      (trodAll_below hl hb ts vs' ds' q (fun t' ht => hr t' (by simp [ht])) (fun x hx => hlt x (List.mem_append.2 (.inr hx))) h2)

/-- The post of a law's row. -/
theorem law_post {f : Func} {s : ChangeSpec} {apart : Bool} {tb : TypeId} {W W' : World} {args : Array Value} {ds gs : List (DataW H)} {before : List MemPlace}
    (hl : laidOutB P = true) (hr : (f.params.toList.all fun t => P.readableRec t && decide (t < P.types.size)) = true) (hvars : s.vars = []) (hrt : f.resultTypes = #[tb]) (hub : P.underlying tb = some .bool)
    (hW : DataW.Whole enc P f.params.toList s.vars apart W args.toList ds gs before) (hspec : s.fn H (ds ++ gs) = { results := [.lit (.bool true)], args := ds })
    (hb : Below W.heap.size W W') : s.post enc P f apart true false false W args (.bool true) W' := by
  have hr' : ∀ t ∈ f.params.toList, P.readableRec t = true ∧ t < P.types.size := fun t ht => by simpa using List.all_eq_true.1 hr t ht
  have hlt := hW.lt
  have hW2 := hW
  obtain ⟨p, q, hA, hV, rfl, _, _⟩ := hW2
  rw [hvars] at hV
  obtain ⟨rfl, rfl⟩ := trodVars_none hV
  refine ⟨ds, [], p ++ [], [], p, [], hW, ?_, ?_, ?_, hb.frame _, fun h => by cases h⟩
  · rw [hspec, hrt]
    exact trodAll_mk1 (shut_bool hub true)
  · rw [hspec]
    exact trodAll_below hl hb _ _ _ _ hr' (fun x hx => hlt x (List.mem_append.2 (.inl hx))) hA
  · rw [hspec, hvars]
    rfl
end
end Go.Proofs.Ytpidmbclgfnekaa
