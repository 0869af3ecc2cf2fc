/-
  MemStale: the call's ways, walked. Conditions: those of each theorem.
-/
import Derived.Test.YtjogjmlabcfkfaaMemAwake
import Derived.Test.YtjogjmlabcfkfaaMemAcc
namespace Go.Proofs.Ytjogjmlabcfkfaa
open Go Go.RowKit

/-- What the memory is: two regions of 8 words, all zero; the first one's epoch. -/
structure StaleM (e c : Nat) (M : MS) : Prop where
  n : M.n = 2
  s0 : M.sz 0 = 8
  s1 : M.sz 1 = 8
  e0 : M.ep 0 = BitVec.ofNat 64 e
  e1 : M.ep 1 = 1#64
  wd : ∀ i j, M.wd i j = 0#64
  ct : M.ct = c
theorem ok88 : SizesOk [8, 8] := ⟨by decide, fun i hi => by
  have : i = 0 ∨ i = 1 := by simp at hi; omega
  rcases this with rfl | rfl <;> decide⟩
theorem StaleM.zero : StaleM 1 0 (M0 [8, 8] 2) := ⟨rfl, rfl, rfl, rfl, rfl, fun _ _ => rfl, rfl⟩
theorem StaleM.bump {e c : Nat} {M : MS} (h : StaleM e c M) : StaleM (e + 1) c (M.bump 0) :=
  ⟨h.n, h.s0, h.s1, by show M.ep 0 + 1#64 = _; rw [h.e0, BitVec.ofNat_add], h.e1, h.wd, h.ct⟩
theorem StaleM.no {e c : Nat} {M : MS} (h : StaleM e c M) (he : 2 ≤ e) (he2 : e ≤ 7) (op at_ : Int) : ¬ DoOk M 0 1#64 op at_ := by
  intro hd
  have h1 : M.ep 0 = 1#64 := hd.1.2.2
  rw [h.e0] at h1
  have h2 := congrArg BitVec.toNat h1
  simp at h2
  omega

theorem StaleM.done {e c : Nat} {M : MS} (h : StaleM e c M) (hc : c < 1000) (r : Int) : StaleM e (c + 1) (M.done r 0 0 0#64 0#64) := by
  refine ⟨h.n, h.s0, h.s1, h.e0, h.e1, fun i j => ?_, ?_⟩
  · show (if i = r.toNat ∧ j = (0 : Int).toNat then nextW 0 (M.wd r.toNat (0 : Int).toNat) 0#64 0#64 else M.wd i j) = 0#64
    split
    · rw [h.wd]; rfl
    · exact h.wd i j
  · show wrap64 (M.ct + 1) = _
    rw [h.ct]
    unfold wrap64
    omega
theorem StaleM.ok0 {e c : Nat} {M : MS} (h : StaleM e c M) : DoOk M 0 (BitVec.ofNat 64 e) 0 0 :=
  ⟨⟨by decide, by rw [h.n]; decide, h.e0⟩, by decide, by show (0 : Int) < (M.sz 0 : Int); rw [h.s0]; decide, by decide, by decide⟩
theorem StaleM.ok1 {e c : Nat} {M : MS} (h : StaleM e c M) : DoOk M 1 1#64 0 0 :=
  ⟨⟨by decide, by rw [h.n]; decide, h.e1⟩, by decide, by show (0 : Int) < (M.sz 1 : Int); rw [h.s1]; decide, by decide, by decide⟩

/-- The capability in its box. -/
def CapAt (cb : Nat) (w : World) : Prop := w.cell? ⟨cb, 0, none⟩ = some (.int .i64 0) ∧ w.cell? ⟨cb, 1, none⟩ = some (.int .u64 (U 1#64))
/-- The first loop: so many bumps. -/
def StaleRel1 (t lo hi : Nat) (L : Lay) (cb : Nat) (w : World) (i : Value) (wr : World) : Prop :=
  ∃ (k : Nat) (M : MS), k ≤ t + 1 ∧ i = .int .i64 (k : Int) ∧ StaleM (k + 1) 0 M ∧ MemIn lo hi L M wr ∧ CapAt cb wr ∧ Ext w wr
/-- The second, and the third one: nothing is done. -/
def StaleRel2 (n lo hi : Nat) (L : Lay) (M : MS) (cb : Nat) (w : World) (i : Value) (wr : World) : Prop :=
  ∃ (k : Nat), k ≤ n ∧ i = .int .i64 (k : Int) ∧ MemIn lo hi L M wr ∧ CapAt cb wr ∧ Ext w wr
theorem CapAt.fr {cb lo hi : Nat} {w w' : World} (h : CapAt cb w) (hf : Fr lo hi w w') (hcb : hi ≤ cb) : CapAt cb w' :=
  ⟨by rw [hf.cell (cell_lt h.1) (.inr hcb)]; exact h.1, by rw [hf.cell (cell_lt h.1) (.inr hcb)]; exact h.2⟩
theorem CapAt.ext {cb : Nat} {w w' : World} (h : CapAt cb w) (hb : Ext w w') : CapAt cb w' := ⟨ext_cell hb h.1, ext_cell hb h.2⟩

set_option maxHeartbeats 2000000 in
theorem memStale_small (f : Nat → Acc) (n : Nat) (a0 : Option Addr) (cap : Nat) (more : Int) (t : Nat) (w : World) (hl : n ≤ 40) (hm0 : 0 ≤ more) (hm1 : more ≤ 255) (ht : Hid (more % 5 = (t : Int))) (ht5 : t < 5) (hU : Hid (As w (.slice a0 n cap) n f)) :
    Calls Try.prog 4 #[.slice a0 n cap, .int .u8 more] w (Ret (.bool true) w) := by
  have q0 : decide (40 < (n : Int)) = false := by simp; omega
  have e5 := ht.out
  go_enter Try.func4, Try.ntmps4
  go_wp2_with (first
    | (go_at_call 9; refine (awake_any _).mono ?_; rintro e w' hr'; obtain ⟨rfl, s, rfl⟩ := hr'.over; clear hr')
    | (go_at_call 11; refine (new_law [8, 8] _ _ (over_below w s) rfl rfl ok88).mono ?_; rintro e X ⟨lo, hi, L, rfl, hM, hX, hlo⟩; have HM := Lib.hid hM; have HX := Lib.hid hX; clear hM hX)
    | (go_at_call 20; refine (cap_int HM.out 0 1#64 (by decide) (by decide) (Lib.hid rfl)).mono ?_; rintro e w' hr'; obtain ⟨rfl, s1, rfl⟩ := hr'.over; clear hr'))
  have HA1 : Hid (CapAt (over X s1).heap.size ((over X s1).alloc (.cells #[.int .i64 0, .int .u64 (U 1#64)] 38))) := Lib.hid ⟨by simp [go_sem], by simp [go_sem]⟩
  have HM1 := Lib.hid ((HM.out.over s1).alloc (.cells #[.int .i64 0, .int .u64 (U 1#64)] 38))
  have HX1 := Lib.hid (ext_alloc (.cells #[.int .i64 0, .int .u64 (U 1#64)] 38) (ext_over s1 HX.out))
  have hcb : hi ≤ (over X s1).heap.size := Nat.le_trans HM.out.top (over_size X s1)
  clear HM HX
  generalize (over X s1).alloc _ = Y at HA1 HM1 HX1 ⊢
  generalize (over X s1).heap.size = cb at HA1 hcb ⊢
  go_loopw [8] (fun i wr => StaleRel1 t lo hi L cb w i wr) (fun i _ => (t + 1 - intOf i).toNat)
  case atStart => exact ⟨0, _, Nat.zero_le _, rfl, StaleM.zero, HM1.out, HA1.out, HX1.out⟩
  case round =>
    clear HM1 HA1 HX1
    obtain ⟨k, M, hk, rfl, hA, hM, hC, hx⟩ := hrel
    have HA := Lib.hid hA
    have HM := Lib.hid hM
    have HC := Lib.hid hC
    have HX := Lib.hid hx
    clear hA hM hC hx
    by_cases hlt : k ≤ t
    · go_wp2_with (go_at_call 13; refine (bump_int HM.out 0 _ (by decide) (by rw [HA.out.n]; decide) (Lib.hid rfl)).mono ?_; rintro e Z ⟨rfl, hM, hF⟩; have HM2 := Lib.hid hM; have HZ := Lib.hid (Fr.below hF HX.out hlo); have HC2 := Lib.hid (HC.out.fr hF hcb); clear hM hF)
      exact ⟨⟨k + 1, _, by omega, by go_num, HA.out.bump, HM2.out, HC2.out, HZ.out⟩, by simp [intOf]; omega⟩
    · obtain rfl : k = t + 1 := by omega
      have hlt' : ¬ ((t : Int) + 1 ≤ t) := by omega
      go_wp2
      go_loopw [9] (fun i wr => StaleRel2 n lo hi L M cb w i wr) (fun i _ => (n - intOf i).toNat)
      case atStart => exact ⟨0, Nat.zero_le _, rfl, HM.out, HC.out, HX.out⟩
      case round =>
        clear HM HC HX
        obtain ⟨k, hk, rfl, hM, hC, hx⟩ := hrel
        have HM := Lib.hid hM
        have HC := Lib.hid hC
        have HX := Lib.hid hx
        clear hM hC hx
        by_cases hlt : k < n
        · obtain ⟨b, o, rfl, hb, hcells⟩ := hU.out.at (by omega)
          obtain ⟨c0, c1, c2, c3⟩ := hcells k hlt
          have hbw : b < wr.heap.size := Nat.lt_of_lt_of_le hb HX.out.size
          have d0 := ext_cell HX.out c0
          have d1 := ext_cell HX.out c1
          have d2 := ext_cell HX.out c2
          have d3 := ext_cell HX.out c3
          obtain ⟨k0, k1⟩ := HC.out
          have hcw := cell_lt k0
          have HN := Lib.hid (HA.out.no (by omega) (by omega) (f k).op (f k).at_)
          clear hcells c0 c1 c2 c3
          go_wp2
          refine wp_region_over (by kernel_rfl) (by kernel_rfl) ?_
          repeat (go_big_quiet_step ((go_at_call 17; exact over_call (do_no (HM.out.over _) 0 _ _ 1#64 _ _ HN.out))))
          refine wpQuiet_nil ?_
          intro _ hw'
          obtain ⟨s2, hw''⟩ := hw'
          subst hw''
          go_wp2
          exact ⟨⟨k + 1, by omega, by go_num, HM.out.over s2, HC.out.ext (over_below _ s2), ext_over s2 HX.out⟩, by simp [intOf]; omega⟩
        · go_wp2
          go_loopw [12] (fun i wr => StaleRel2 8 lo hi L M cb w i wr) (fun i _ => (8 - intOf i).toNat)
          case atStart => exact ⟨0, Nat.zero_le _, rfl, HM.out, HC.out, HX.out⟩
          case round =>
            clear HM HC HX
            obtain ⟨j, hj, rfl, hM, hC, hx⟩ := hrel
            have HM := Lib.hid hM
            have HC := Lib.hid hC
            have HX := Lib.hid hx
            clear hM hC hx
            by_cases hlt8 : j < 8
            · go_wp2_with fail
              refine (peek_int HM.out 0 (j : Int) 0 (by decide) (by rw [HA.out.n]; decide) (by omega) (by show (j : Int) < (M.sz 0 : Int); rw [HA.out.s0]; omega) (Lib.hid (by rw [HA.out.wd, U_0]))).mono ?_
              rintro e w' hr'
              obtain ⟨rfl, s2, rfl⟩ := hr'.over
              clear hr'
              go_wp2_with fail
              refine (peek_int (HM.out.over s2) 1 (j : Int) 0 (by decide) (by rw [HA.out.n]; decide) (by omega) (by show (j : Int) < (M.sz 1 : Int); rw [HA.out.s1]; omega) (Lib.hid (by rw [HA.out.wd, U_0]))).mono ?_
              rintro e w' hr'
              obtain ⟨rfl, s3, rfl⟩ := hr'.over
              clear hr'
              go_wp2
              exact ⟨⟨j + 1, by omega, by go_num, by first | exact (HM.out.over _).over _ | exact HM.out.over _, by first | exact (HC.out.ext (over_below _ _)).ext (over_below _ _) | exact HC.out.ext (over_below _ _), by first | exact ext_over _ (ext_over _ HX.out) | exact ext_over _ HX.out⟩, by simp [intOf]; omega⟩
            · have h8 : j = 8 := by omega
              subst h8
              have HD1 := Lib.hid (HA.out.done (by decide) 0)
              have HD2 := Lib.hid (HD1.out.done (by decide) 1)
              have HT : Hid (U (BitVec.ofNat 64 (t + 1 + 1)) = 2 + (t : Int)) := by
                refine Lib.hid ?_
                rw [U_toNat, BitVec.toNat_ofNat]
                omega
              go_wp2_with fail
              refine (cap_int HM.out 0 _ (by decide) (by rw [HA.out.n]; decide) (Lib.hid HA.out.e0)).mono ?_
              rintro e w' hr'
              obtain ⟨rfl, s2, rfl⟩ := hr'.over
              clear hr'
              go_wp2_with fail
              refine (do_int (HM.out.over s2) 0 0 0 _ 0 0 0 _ 0#64 0#64 _ rfl U_0.symm U_0.symm HA.out.ok0 (Lib.hid (by rw [HA.out.wd, U_0])) (Lib.hid rfl)).mono ?_
              rintro e Z ⟨rfl, hM, hF⟩
              have HM2 := Lib.hid hM
              have HZ := Lib.hid (Fr.below hF (ext_over s2 HX.out) hlo)
              clear hM hF
              go_wp2_with fail
              refine (cap_int HM2.out 1 1#64 (by decide) (by rw [HD1.out.n]; decide) (Lib.hid HD1.out.e1)).mono ?_
              rintro e w' hr'
              obtain ⟨rfl, s3, rfl⟩ := hr'.over
              clear hr'
              go_wp2_with fail
              refine (do_int (HM2.out.over s3) 1 0 0 _ 0 0 0 1#64 0#64 0#64 _ rfl U_0.symm U_0.symm HD1.out.ok1 (Lib.hid (by rw [HD1.out.wd, U_0])) (Lib.hid rfl)).mono ?_
              rintro e V ⟨rfl, hM, hF⟩
              have HM3 := Lib.hid hM
              have HV := Lib.hid (Fr.below hF (ext_over s3 HZ.out) hlo)
              clear hM hF
              go_wp2_with fail
              refine (count_at HM3.out 2 (Lib.hid HD2.out.ct)).mono ?_
              rintro e w' hr'
              obtain ⟨rfl, s4, rfl⟩ := hr'.over
              clear hr'
              go_wp2_with fail
              refine (cap_at (HM3.out.over s4) 0 (2 + (t : Int)) (by decide) (by rw [HD2.out.n]; decide) (Lib.hid (by rw [show (0 : Int).toNat = 0 from rfl, HD2.out.e0]; exact HT.out))).mono ?_
              rintro e w' hr'
              obtain ⟨rfl, s5, rfl⟩ := hr'.over
              clear hr'
              go_wp2
              go_ret
              exact Ret.mk (by first | exact ext_over _ (ext_over _ HV.out) | exact ext_over _ HV.out)

set_option maxHeartbeats 400000 in
theorem memStale_great (n : Nat) (a0 : Option Addr) (cap : Nat) (more : Int) (w : World) (h : 40 < n) :
    Calls Try.prog 4 #[.slice a0 n cap, .int .u8 more] w (Ret (.bool true) w) := by
  go_enter Try.func4, Try.ntmps4
  go_wp2_with (go_at_call 9; refine (awake_any _).mono ?_; rintro e w' hr'; obtain ⟨rfl, s, rfl⟩ := hr'.over; clear hr')
  go_ret
  exact Ret.mk (by repeat (first | exact ext_refl _ | apply ext_over | apply ext_alloc))

theorem memStale_any (f : Nat → Acc) (n : Nat) (v : Value) (more : Int) (w : World) (h0 : 0 ≤ more) (h1 : more ≤ 255) (hU : As w v n f) : Calls Try.prog 4 #[v, .int .u8 more] w (Ret (.bool true) w) := by
  have hU' := hU
  obtain ⟨a0, cap, rfl, _⟩ := hU'
  by_cases h : n ≤ 40
  · exact memStale_small f n a0 cap more (more % 5).toNat w h h0 h1 (Lib.hid (by omega)) (by omega) (Lib.hid hU)
  · exact memStale_great n a0 cap more w (by omega)
end Go.Proofs.Ytjogjmlabcfkfaa
