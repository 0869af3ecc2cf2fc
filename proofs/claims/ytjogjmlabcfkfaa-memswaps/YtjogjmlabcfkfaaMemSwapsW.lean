/-
  MemSwaps: the call's ways, walked. Conditions: those of each theorem.
-/
import Derived.Test.YtjogjmlabcfkfaaMemAwake
import Derived.Test.YtjogjmlabcfkfaaUs
namespace Go.Proofs.Ytjogjmlabcfkfaa
open Go Go.RowKit

/-- What the memory is: one word. -/
structure OneM (x : BitVec 64) (M : MS) : Prop where
  n : M.n = 1
  s0 : M.sz 0 = 1
  e0 : M.ep 0 = 1#64
  w0 : M.wd 0 0 = x
theorem OneM.ok {x : BitVec 64} {M : MS} (h : OneM x M) (op : Int) (h0 : 0 ≤ op) (h3 : op ≤ 3) : DoOk M 0 1#64 op 0 :=
  ⟨⟨by decide, by rw [h.n]; decide, h.e0⟩, by decide, by show (0 : Int) < (M.sz 0 : Int); rw [h.s0]; decide, h0, h3⟩
theorem OneM.done {x : BitVec 64} {M : MS} (h : OneM x M) (op : Int) (a b : BitVec 64) : OneM (nextW op x a b) (M.done 0 op 0 a b) :=
  ⟨h.n, h.s0, h.e0, by show nextW op (M.wd 0 0) a b = _; rw [h.w0]⟩
theorem ok1' : SizesOk [1] := ⟨by decide, fun i hi => by
  obtain rfl : i = 0 := by simp at hi; omega
  decide⟩

/-- The loop. -/
def SwapsRel (l : List (BitVec 64)) (lo hi : Nat) (L : Lay) (w : World) (now i : Value) (wr : World) : Prop :=
  ∃ (k : Nat) (x : BitVec 64) (M : MS), k ≤ l.length ∧ i = .int .i64 (k : Int) ∧ now = .int .u64 (U x) ∧ OneM x M ∧ MemIn lo hi L M wr ∧ Ext w wr

set_option maxHeartbeats 1000000 in
theorem memSwaps_small (W : BitVec 64) (l : List (BitVec 64)) (a0 : Option Addr) (cap : Nat) (w : World) (hl : l.length ≤ 12) (hU : Hid (Us w (.slice a0 l.length cap) l)) :
    Calls Try.prog 8 #[.int .u64 (U W), .slice a0 l.length cap] w (Ret (.bool true) w) := by
  have q0 : decide (12 < (l.length : Int)) = false := by simp; omega
  have H0 : Hid (OneM 0#64 (M0 [1] 1)) := Lib.hid ⟨rfl, rfl, rfl, rfl⟩
  go_enter Try.func8, Try.ntmps8
  go_wp2_with (first
    | (go_at_call 9; refine (awake_any _).mono ?_; rintro e w' hr'; obtain ⟨rfl, s, rfl⟩ := hr'.over; clear hr')
    | (go_at_call 11; refine (new_law [1] _ _ (over_below w s) rfl rfl ok1').mono ?_; rintro e X ⟨lo, hi, L, rfl, hM, hX, hlo⟩; have HM := Lib.hid hM; have HX := Lib.hid hX; clear hM hX)
    | (go_at_call 20; refine (cap_int HM.out 0 1#64 (by decide) (by decide) (Lib.hid rfl)).mono ?_; rintro e w' hr'; obtain ⟨rfl, s1, rfl⟩ := hr'.over; clear hr')
    | (go_at_call 17; refine (do_int (HM.out.over s1) 0 1 0 _ _ 0 0 1#64 W 0#64 _ rfl rfl U_0.symm (H0.out.ok 1 (by decide) (by decide)) (Lib.hid U_0) (Lib.hid rfl)).mono ?_; rintro e Y ⟨rfl, hM, hF⟩; have HM2 := Lib.hid hM; have HY := Lib.hid (Fr.below hF (ext_over s1 HX.out) hlo); clear hM hF))
  go_loopw [7, 8] (fun now i wr => SwapsRel l lo hi L w now i wr) (fun _ i _ => (l.length - intOf i).toNat)
  case atStart => exact ⟨0, W, _, Nat.zero_le _, rfl, rfl, H0.out.done 1 W 0#64, HM2.out, HY.out⟩
  case round =>
    clear HM HX HM2 HY H0
    obtain ⟨k, x, M, hk, rfl, rfl, hA, hM, hx⟩ := hrel
    have HA := Lib.hid hA
    have HM := Lib.hid hM
    have HX := Lib.hid hx
    clear hA hM hx
    by_cases hlt : k < l.length
    · obtain ⟨b, o, rfl, hb, hcells⟩ := hU.out.at (by omega)
      have C0 := Lib.hid (hcells k hlt)
      have hbl : b < lo := Nat.lt_of_lt_of_le hb hlo
      have hbw : b < wr.heap.size := Nat.lt_of_lt_of_le hb HX.out.size
      have c0 := ext_cell HX.out C0.out
      clear hcells
      go_wp2
      refine wp_region_mix (fun w' => ∃ s, w' = off lo hi wr s) [(0, [0, 1, 3, 4, 5, 6, 7, 8]), (1, [2]), (1, [9]), (0, [10, 11, 12, 13, 14])] (by kernel_rfl) (by kernel_rfl) (off_of (Fr.refl _ _ wr).drew) ?_
      simp only [pieces, pickL, List.map_cons, List.map_nil, List.getD_cons_zero, List.getD_cons_succ]
      refine mix_reads ?_
      repeat (go_big_quiet_step (fail))
      refine wpQuiet_nil (mix_acts ?_)
      go_wp2_with (go_at_call 20; refine (cap_int HM.out.drew 0 1#64 (by decide) (by rw [HA.out.n]; decide) (Lib.hid HA.out.e0)).mono ?_; rintro e w' ⟨rfl, hw'⟩; have HX1 := Lib.hid (ext_trans (ext_drew (ext_refl wr)) hw'); clear hw')
      refine mixQ_mk (off_of (.of_ext HX1.out)) (mix_acts ?_)
      go_wp2_with (go_at_call 17; refine (do_int (HM.out.ext HX1.out) 0 2 0 _ _ _ (U x) 1#64 W (uN l k) _ rfl rfl rfl (HA.out.ok 2 (by decide) (by decide)) (Lib.hid (by rw [← HA.out.w0]; rfl)) (Lib.hid rfl)).mono ?_; rintro e Y ⟨rfl, hM, hF⟩; have HM2 := Lib.hid hM; have HF2 := Lib.hid ((Fr.of_ext HX1.out).trans hF); clear hM hF)
      refine mixQ_mk (off_of HF2.out) (mix_reads ?_)
      repeat (go_big_quiet_step (fail))
      refine wpQuiet_nil (mix_end ?_)
      have HY := Lib.hid (Fr.below HF2.out HX.out hlo)
      have c0' := ext_cell HY.out C0.out
      have HD := Lib.hid (HA.out.done 2 W (uN l k))
      by_cases hxw : x = W
      · subst hxw
        have HD' : Hid (OneM (uN l k) (M.done 0 2 0 x (uN l k))) := by
          have := HD.out
          rw [show nextW 2 x x (uN l k) = uN l k by simp [nextW]] at this
          exact Lib.hid this
        go_wp2
        exact ⟨⟨k + 1, uN l k, _, by omega, by go_num, rfl, HD'.out, HM2.out, HY.out⟩, by simp [intOf]; omega⟩
      · have HD' : Hid (OneM x (M.done 0 2 0 W (uN l k))) := by
          have := HD.out
          rw [show nextW 2 x W (uN l k) = x by simp [nextW, hxw]] at this
          exact Lib.hid this
        have q1 : (U x == U W) = false := by rw [beq_eq_false_iff_ne]; exact fun h => hxw (U_inj h)
        clear hxw
        go_wp2
        exact ⟨⟨k + 1, x, _, by omega, by go_num, rfl, HD'.out, HM2.out, HY.out⟩, by simp [intOf]; omega⟩
    · go_wp2_with (go_at_call 21; refine (peek_int HM.out 0 0 (U x) (by decide) (by rw [HA.out.n]; decide) (by decide) (by show (0 : Int) < (M.sz 0 : Int); rw [HA.out.s0]; decide) (Lib.hid (by rw [← HA.out.w0]; rfl))).mono ?_; rintro e w' hr'; obtain ⟨rfl, s1, rfl⟩ := hr'.over; clear hr')
      go_ret
      exact Ret.mk (ext_over _ HX.out)

set_option maxHeartbeats 400000 in
theorem memSwaps_great (W : BitVec 64) (n : Nat) (a0 : Option Addr) (cap : Nat) (w : World) (h : 12 < n) :
    Calls Try.prog 8 #[.int .u64 (U W), .slice a0 n cap] w (Ret (.bool true) w) := by
  go_enter Try.func8, Try.ntmps8
  go_wp2_with (go_at_call 9; refine (awake_any _).mono ?_; rintro e w' hr'; obtain ⟨rfl, s, rfl⟩ := hr'.over; clear hr')
  go_ret
  exact Ret.mk (by repeat (first | exact ext_refl _ | apply ext_over | apply ext_alloc))

theorem memSwaps_any (W : BitVec 64) (l : List (BitVec 64)) (v : Value) (w : World) (hU : Us w v l) : Calls Try.prog 8 #[.int .u64 (U W), v] w (Ret (.bool true) w) := by
  have hU' := hU
  obtain ⟨a0, cap, rfl, _⟩ := hU'
  by_cases h : l.length ≤ 12
  · exact memSwaps_small W l a0 cap w h (Lib.hid hU)
  · exact memSwaps_great W l.length a0 cap w (by omega)
end Go.Proofs.Ytjogjmlabcfkfaa
