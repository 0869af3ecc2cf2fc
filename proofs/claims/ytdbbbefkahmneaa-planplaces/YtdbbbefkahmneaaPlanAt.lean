/-
  What the calls of a plan that tell a place come to. Conditions: those of each theorem.
-/
import Derived.Test.YtdbbbefkahmneaaPlanFn
namespace Go.Proofs.Ytdbbbefkahmneaa
open Go Go.RowKit

theorem PlaceSpec.mk {p : Pl} {at_ r : Int} {l : List T3} {q : Prop} [Decidable q] {y : Int} (hr : r = if p.ok ∧ q then y else -1) (h : p.ok → (Bd l ↔ q)) (he : p.ok → q → at_ = y) : PlaceSpec p at_ l r := by
  refine ⟨fun hk hb => ?_, fun hn => ?_⟩
  · have hq := (h hk).1 hb
    rw [hr, if_pos ⟨hk, hq⟩, he hk hq]
  · rw [hr, if_neg]
    rintro ⟨hk, hq⟩
    exact hn ⟨hk, (h hk).2 hq⟩
theorem most_of {x m : Int} (h0 : 0 ≤ m) (h1 : m ≤ 1048576) : (0 ≤ x ∧ x ≤ wrap64 (m - 1)) ↔ (0 ≤ x ∧ x < m) := by
  rw [IntWalk.wrap64_in (m - 1) (by omega)]
  omega
theorem Pl.lim {p : Pl} (h : p.ok) : (0 ≤ p.n ∧ p.n ≤ 1048576) ∧ (0 ≤ p.t ∧ p.t ≤ 1048576) ∧ (0 ≤ p.r ∧ p.r ≤ 1048576) ∧ (0 ≤ p.d ∧ p.d ≤ 1048576) ∧ (0 ≤ p.c ∧ p.c ≤ 1048576) := by
  have h1 := p.c_le
  unfold Pl.ok at h
  have h2 := p.c_ge (by omega)
  omega

theorem kind_spec (p : Pl) (x : Int) : PlaceSpec p (p.domW x) [⟨x, 0, wrap64 (p.d - 1)⟩] (p.kindF x) := by
  refine PlaceSpec.mk (by unfold Pl.kindF; rfl) (fun hk => ?_) (fun hk hq => ?_)
  · have hl := Pl.lim hk
    simp only [bd_cons, bd_nil, and_true]
    exact most_of hl.2.2.2.1.1 hl.2.2.2.1.2
  · exact Pl.domW_eq hk (by omega) (by omega)

set_option maxHeartbeats 800000 in
theorem kind_any (p : Pl) (x : Int) (w : World) : Calls Try.prog 24 #[plV p, .int .i64 x] w (Ret (.int .i64 (p.kindF x)) w) := by
  go_enter Try.func24, Try.ntmps24
  go_wp2
  refine wp_region_mix (fun w' => ∃ s, w' = over (w.alloc (.cells #[.int .i64 p.n, .int .i64 p.t, .int .i64 p.r, .int .i64 p.d, .int .i64 p.b, .int .i64 p.g] 23)) s) [(0, [0, 1, 2, 4, 5, 6]), (1, [3]), (1, [7]), (1, [8]), (1, [9]), (0, [10])] (by kernel_rfl) (by kernel_rfl) (over_of (ext_drew (ext_refl _))) ?_
  simp only [pieces, pickL, List.map_cons, List.map_nil, List.getD_cons_zero, List.getD_cons_succ]
  have HX0 := Lib.hid (ext_drew (ext_refl (w.alloc (.cells #[.int .i64 p.n, .int .i64 p.t, .int .i64 p.r, .int .i64 p.d, .int .i64 p.b, .int .i64 p.g] 23))))
  refine mix_reads ?_
  repeat (go_big_quiet_step (fail))
  refine wpQuiet_nil (mix_acts ?_)
  go_wp2_with (go_at_call 35; refine (domain_any p x _).mono ?_; rintro e w1 ⟨rfl, hx⟩; have HX1 := Lib.hid (ext_trans HX0.out hx); clear hx)
  refine mixQ_mk (over_of HX1.out) (mix_acts ?_)
  go_wp2_with (go_at_call 32; refine (one_any x p.d _).mono ?_; rintro e w2 ⟨rfl, hx⟩; have HX2 := Lib.hid (ext_trans HX1.out hx); clear hx)
  refine mixQ_mk (over_of HX2.out) (mix_acts ?_)
  go_wp2
  have HX3 := Lib.hid (ext_alloc (.cells #[.int .i64 x, .int .i64 0, .int .i64 (wrap64 (p.d - 1))] 43) HX2.out)
  refine mixQ_mk (over_of HX3.out) (mix_acts ?_)
  go_wp2_with (go_at_call 31; refine (place_any p (p.domW x) [⟨x, 0, wrap64 (p.d - 1)⟩] _ _ (p.kindF x) (Lib.hid (kind_spec p x)) (ts_new _ _ _ _ _ _ rfl rfl rfl) (Nat.le_of_ble_eq_true rfl)).mono ?_; rintro e w4 ⟨rfl, hx⟩; have HX4 := Lib.hid (ext_trans HX3.out hx); clear hx)
  refine mixQ_mk (over_of HX4.out) (mix_reads ?_)
  repeat (go_big_quiet_step (fail))
  refine wpQuiet_nil (mix_end ?_)
  go_wp2
  go_ret
  exact Ret.mk (ext_trans (ext_alloc _ (ext_refl w)) HX4.out)

theorem cell_spec (p : Pl) (x i : Int) : PlaceSpec p (wrap64 (wrap64 (p.domW x + 1) + i)) [⟨x, 0, wrap64 (p.d - 1)⟩, ⟨i, 0, wrap64 (p.c - 1)⟩] (p.cellF x i) := by
  refine PlaceSpec.mk (by unfold Pl.cellF; rfl) (fun hk => ?_) (fun hk hq => ?_)
  · have hl := Pl.lim hk
    simp only [bd_cons, bd_nil, and_true]
    exact and_congr (most_of hl.2.2.2.1.1 hl.2.2.2.1.2) (most_of hl.2.2.2.2.1 hl.2.2.2.2.2)
  · have hb := Pl.dom_in hk (x := x) (by omega) (by omega); have hl := Pl.lim hk; rw [Pl.domW_eq hk (by omega) (by omega), IntWalk.wrap64_in (p.dom x + 1) (by omega), IntWalk.wrap64_in _ (by omega)]

set_option maxHeartbeats 800000 in
theorem cell_any (p : Pl) (x i : Int) (w : World) : Calls Try.prog 30 #[plV p, .int .i64 x, .int .i64 i] w (Ret (.int .i64 (p.cellF x i)) w) := by
  go_enter Try.func30, Try.ntmps30
  go_wp2
  refine wp_region_mix (fun w' => ∃ s, w' = over (w.alloc (.cells #[.int .i64 p.n, .int .i64 p.t, .int .i64 p.r, .int .i64 p.d, .int .i64 p.b, .int .i64 p.g] 23)) s) [(0, [0, 1, 2, 5, 7, 8, 9, 11, 12]), (1, [3]), (0, [4, 6]), (1, [10]), (1, [13]), (1, [14]), (1, [15]), (1, [16]), (0, [17])] (by kernel_rfl) (by kernel_rfl) (over_of (ext_drew (ext_refl _))) ?_
  simp only [pieces, pickL, List.map_cons, List.map_nil, List.getD_cons_zero, List.getD_cons_succ]
  have HX0 := Lib.hid (ext_drew (ext_refl (w.alloc (.cells #[.int .i64 p.n, .int .i64 p.t, .int .i64 p.r, .int .i64 p.d, .int .i64 p.b, .int .i64 p.g] 23))))
  refine mix_reads ?_
  repeat (go_big_quiet_step (fail))
  refine wpQuiet_nil (mix_acts ?_)
  go_wp2_with (go_at_call 35; refine (domain_any p x _).mono ?_; rintro e w1 ⟨rfl, hx⟩; have HX1 := Lib.hid (ext_trans HX0.out hx); clear hx)
  refine mixQ_mk (over_of HX1.out) (mix_reads ?_)
  repeat (go_big_quiet_step (fail))
  refine wpQuiet_nil (mix_acts ?_)
  go_wp2_with (go_at_call 32; refine (one_any x p.d _).mono ?_; rintro e w2 ⟨rfl, hx⟩; have HX2 := Lib.hid (ext_trans HX1.out hx); clear hx)
  refine mixQ_mk (over_of HX2.out) (mix_acts ?_)
  go_wp2_with (go_at_call 29; refine (cells_any p _).mono ?_; rintro e w3 ⟨rfl, hx⟩; have HX3 := Lib.hid (ext_trans HX2.out hx); clear hx)
  refine mixQ_mk (over_of HX3.out) (mix_acts ?_)
  go_wp2_with (go_at_call 32; refine (one_any i p.c _).mono ?_; rintro e w4 ⟨rfl, hx⟩; have HX4 := Lib.hid (ext_trans HX3.out hx); clear hx)
  refine mixQ_mk (over_of HX4.out) (mix_acts ?_)
  go_wp2
  have HX5 := Lib.hid (ext_alloc (.cells #[.int .i64 x, .int .i64 0, .int .i64 (wrap64 (p.d - 1)), .int .i64 i, .int .i64 0, .int .i64 (wrap64 (p.c - 1))] 43) HX4.out)
  refine mixQ_mk (over_of HX5.out) (mix_acts ?_)
  go_wp2_with (go_at_call 31; refine (place_any p (wrap64 (wrap64 (p.domW x + 1) + i)) [⟨x, 0, wrap64 (p.d - 1)⟩, ⟨i, 0, wrap64 (p.c - 1)⟩] _ _ (p.cellF x i) (Lib.hid (cell_spec p x i)) (ts_new _ _ _ _ _ _ rfl rfl rfl) (Nat.le_of_ble_eq_true rfl)).mono ?_; rintro e w6 ⟨rfl, hx⟩; have HX6 := Lib.hid (ext_trans HX5.out hx); clear hx)
  refine mixQ_mk (over_of HX6.out) (mix_reads ?_)
  repeat (go_big_quiet_step (fail))
  refine wpQuiet_nil (mix_end ?_)
  go_wp2
  go_ret
  exact Ret.mk (ext_trans (ext_alloc _ (ext_refl w)) HX6.out)

theorem hazard_spec (p : Pl) (x i : Int) : PlaceSpec p (wrap64 (p.hazW x + i)) [⟨x, 0, wrap64 (p.t - 1)⟩, ⟨i, 0, wrap64 2⟩] (p.hazF x i) := by
  refine PlaceSpec.mk (by unfold Pl.hazF; rfl) (fun hk => ?_) (fun hk hq => ?_)
  · have hl := Pl.lim hk
    simp only [bd_cons, bd_nil, and_true]
    exact and_congr (most_of hl.2.1.1 hl.2.1.2) ((show (0 ≤ i ∧ i ≤ wrap64 2) ↔ (0 ≤ i ∧ i < 3) by rw [IntWalk.wrap64_in 2 (by omega)]; omega))
  · have hb := Pl.haz_in hk (x := x) (by omega) (by omega); rw [Pl.hazW_eq hk (by omega) (by omega), IntWalk.wrap64_in _ (by omega)]

set_option maxHeartbeats 800000 in
theorem hazard_any (p : Pl) (x i : Int) (w : World) : Calls Try.prog 22 #[plV p, .int .i64 x, .int .i64 i] w (Ret (.int .i64 (p.hazF x i)) w) := by
  go_enter Try.func22, Try.ntmps22
  go_wp2
  refine wp_region_mix (fun w' => ∃ s, w' = over (w.alloc (.cells #[.int .i64 p.n, .int .i64 p.t, .int .i64 p.r, .int .i64 p.d, .int .i64 p.b, .int .i64 p.g] 23)) s) [(0, [0, 1, 2, 4, 6, 7, 8, 10]), (1, [3]), (0, [5]), (1, [9]), (1, [11]), (1, [12]), (1, [13]), (0, [14])] (by kernel_rfl) (by kernel_rfl) (over_of (ext_drew (ext_refl _))) ?_
  simp only [pieces, pickL, List.map_cons, List.map_nil, List.getD_cons_zero, List.getD_cons_succ]
  have HX0 := Lib.hid (ext_drew (ext_refl (w.alloc (.cells #[.int .i64 p.n, .int .i64 p.t, .int .i64 p.r, .int .i64 p.d, .int .i64 p.b, .int .i64 p.g] 23))))
  refine mix_reads ?_
  repeat (go_big_quiet_step (fail))
  refine wpQuiet_nil (mix_acts ?_)
  go_wp2_with (go_at_call 33; refine (hazards_any p x _).mono ?_; rintro e w1 ⟨rfl, hx⟩; have HX1 := Lib.hid (ext_trans HX0.out hx); clear hx)
  refine mixQ_mk (over_of HX1.out) (mix_reads ?_)
  repeat (go_big_quiet_step (fail))
  refine wpQuiet_nil (mix_acts ?_)
  go_wp2_with (go_at_call 32; refine (one_any x p.t _).mono ?_; rintro e w2 ⟨rfl, hx⟩; have HX2 := Lib.hid (ext_trans HX1.out hx); clear hx)
  refine mixQ_mk (over_of HX2.out) (mix_acts ?_)
  go_wp2_with (go_at_call 32; refine (one_any i 3 _).mono ?_; rintro e w3 ⟨rfl, hx⟩; have HX3 := Lib.hid (ext_trans HX2.out hx); clear hx)
  refine mixQ_mk (over_of HX3.out) (mix_acts ?_)
  go_wp2
  have HX4 := Lib.hid (ext_alloc (.cells #[.int .i64 x, .int .i64 0, .int .i64 (wrap64 (p.t - 1)), .int .i64 i, .int .i64 0, .int .i64 (wrap64 2)] 43) HX3.out)
  refine mixQ_mk (over_of HX4.out) (mix_acts ?_)
  go_wp2_with (go_at_call 31; refine (place_any p (wrap64 (p.hazW x + i)) [⟨x, 0, wrap64 (p.t - 1)⟩, ⟨i, 0, wrap64 2⟩] _ _ (p.hazF x i) (Lib.hid (hazard_spec p x i)) (ts_new _ _ _ _ _ _ rfl rfl rfl) (Nat.le_of_ble_eq_true rfl)).mono ?_; rintro e w5 ⟨rfl, hx⟩; have HX5 := Lib.hid (ext_trans HX4.out hx); clear hx)
  refine mixQ_mk (over_of HX5.out) (mix_reads ?_)
  repeat (go_big_quiet_step (fail))
  refine wpQuiet_nil (mix_end ?_)
  go_wp2
  go_ret
  exact Ret.mk (ext_trans (ext_alloc _ (ext_refl w)) HX5.out)

theorem cnt_spec (p : Pl) (x : Int) : PlaceSpec p (p.cntW x) [⟨x, 0, wrap64 (p.t - 1)⟩] (p.cntF x) := by
  refine PlaceSpec.mk (by unfold Pl.cntF; rfl) (fun hk => ?_) (fun hk hq => ?_)
  · have hl := Pl.lim hk
    simp only [bd_cons, bd_nil, and_true]
    exact most_of hl.2.1.1 hl.2.1.2
  · exact Pl.cntW_eq hk (by omega) (by omega)

set_option maxHeartbeats 800000 in
theorem cnt_any (p : Pl) (x : Int) (w : World) : Calls Try.prog 23 #[plV p, .int .i64 x] w (Ret (.int .i64 (p.cntF x)) w) := by
  go_enter Try.func23, Try.ntmps23
  go_wp2
  refine wp_region_mix (fun w' => ∃ s, w' = over (w.alloc (.cells #[.int .i64 p.n, .int .i64 p.t, .int .i64 p.r, .int .i64 p.d, .int .i64 p.b, .int .i64 p.g] 23)) s) [(0, [0, 1, 2, 4, 5, 6]), (1, [3]), (1, [7]), (1, [8]), (1, [9]), (0, [10])] (by kernel_rfl) (by kernel_rfl) (over_of (ext_drew (ext_refl _))) ?_
  simp only [pieces, pickL, List.map_cons, List.map_nil, List.getD_cons_zero, List.getD_cons_succ]
  have HX0 := Lib.hid (ext_drew (ext_refl (w.alloc (.cells #[.int .i64 p.n, .int .i64 p.t, .int .i64 p.r, .int .i64 p.d, .int .i64 p.b, .int .i64 p.g] 23))))
  refine mix_reads ?_
  repeat (go_big_quiet_step (fail))
  refine wpQuiet_nil (mix_acts ?_)
  go_wp2_with (go_at_call 34; refine (count_any p x _).mono ?_; rintro e w1 ⟨rfl, hx⟩; have HX1 := Lib.hid (ext_trans HX0.out hx); clear hx)
  refine mixQ_mk (over_of HX1.out) (mix_acts ?_)
  go_wp2_with (go_at_call 32; refine (one_any x p.t _).mono ?_; rintro e w2 ⟨rfl, hx⟩; have HX2 := Lib.hid (ext_trans HX1.out hx); clear hx)
  refine mixQ_mk (over_of HX2.out) (mix_acts ?_)
  go_wp2
  have HX3 := Lib.hid (ext_alloc (.cells #[.int .i64 x, .int .i64 0, .int .i64 (wrap64 (p.t - 1))] 43) HX2.out)
  refine mixQ_mk (over_of HX3.out) (mix_acts ?_)
  go_wp2_with (go_at_call 31; refine (place_any p (p.cntW x) [⟨x, 0, wrap64 (p.t - 1)⟩] _ _ (p.cntF x) (Lib.hid (cnt_spec p x)) (ts_new _ _ _ _ _ _ rfl rfl rfl) (Nat.le_of_ble_eq_true rfl)).mono ?_; rintro e w4 ⟨rfl, hx⟩; have HX4 := Lib.hid (ext_trans HX3.out hx); clear hx)
  refine mixQ_mk (over_of HX4.out) (mix_reads ?_)
  repeat (go_big_quiet_step (fail))
  refine wpQuiet_nil (mix_end ?_)
  go_wp2
  go_ret
  exact Ret.mk (ext_trans (ext_alloc _ (ext_refl w)) HX4.out)

theorem retired_spec (p : Pl) (x i : Int) : PlaceSpec p (wrap64 (wrap64 (p.cntW x + 1) + i)) [⟨x, 0, wrap64 (p.t - 1)⟩, ⟨i, 0, wrap64 (p.r - 1)⟩] (p.retF x i) := by
  refine PlaceSpec.mk (by unfold Pl.retF; rfl) (fun hk => ?_) (fun hk hq => ?_)
  · have hl := Pl.lim hk
    simp only [bd_cons, bd_nil, and_true]
    exact and_congr (most_of hl.2.1.1 hl.2.1.2) (most_of hl.2.2.1.1 hl.2.2.1.2)
  · have hb := Pl.cnt_in hk (x := x) (by omega) (by omega); have hl := Pl.lim hk; rw [Pl.cntW_eq hk (by omega) (by omega), IntWalk.wrap64_in (p.cnt x + 1) (by omega), IntWalk.wrap64_in _ (by omega)]

set_option maxHeartbeats 800000 in
theorem retired_any (p : Pl) (x i : Int) (w : World) : Calls Try.prog 26 #[plV p, .int .i64 x, .int .i64 i] w (Ret (.int .i64 (p.retF x i)) w) := by
  go_enter Try.func26, Try.ntmps26
  go_wp2
  refine wp_region_mix (fun w' => ∃ s, w' = over (w.alloc (.cells #[.int .i64 p.n, .int .i64 p.t, .int .i64 p.r, .int .i64 p.d, .int .i64 p.b, .int .i64 p.g] 23)) s) [(0, [0, 1, 2, 5, 7, 8, 9, 11, 12, 13]), (1, [3]), (0, [4, 6]), (1, [10]), (1, [14]), (1, [15]), (1, [16]), (0, [17])] (by kernel_rfl) (by kernel_rfl) (over_of (ext_drew (ext_refl _))) ?_
  simp only [pieces, pickL, List.map_cons, List.map_nil, List.getD_cons_zero, List.getD_cons_succ]
  have HX0 := Lib.hid (ext_drew (ext_refl (w.alloc (.cells #[.int .i64 p.n, .int .i64 p.t, .int .i64 p.r, .int .i64 p.d, .int .i64 p.b, .int .i64 p.g] 23))))
  refine mix_reads ?_
  repeat (go_big_quiet_step (fail))
  refine wpQuiet_nil (mix_acts ?_)
  go_wp2_with (go_at_call 34; refine (count_any p x _).mono ?_; rintro e w1 ⟨rfl, hx⟩; have HX1 := Lib.hid (ext_trans HX0.out hx); clear hx)
  refine mixQ_mk (over_of HX1.out) (mix_reads ?_)
  repeat (go_big_quiet_step (fail))
  refine wpQuiet_nil (mix_acts ?_)
  go_wp2_with (go_at_call 32; refine (one_any x p.t _).mono ?_; rintro e w2 ⟨rfl, hx⟩; have HX2 := Lib.hid (ext_trans HX1.out hx); clear hx)
  refine mixQ_mk (over_of HX2.out) (mix_acts ?_)
  go_wp2_with (go_at_call 32; refine (one_any i p.r _).mono ?_; rintro e w3 ⟨rfl, hx⟩; have HX3 := Lib.hid (ext_trans HX2.out hx); clear hx)
  refine mixQ_mk (over_of HX3.out) (mix_acts ?_)
  go_wp2
  have HX4 := Lib.hid (ext_alloc (.cells #[.int .i64 x, .int .i64 0, .int .i64 (wrap64 (p.t - 1)), .int .i64 i, .int .i64 0, .int .i64 (wrap64 (p.r - 1))] 43) HX3.out)
  refine mixQ_mk (over_of HX4.out) (mix_acts ?_)
  go_wp2_with (go_at_call 31; refine (place_any p (wrap64 (wrap64 (p.cntW x + 1) + i)) [⟨x, 0, wrap64 (p.t - 1)⟩, ⟨i, 0, wrap64 (p.r - 1)⟩] _ _ (p.retF x i) (Lib.hid (retired_spec p x i)) (ts_new _ _ _ _ _ _ rfl rfl rfl) (Nat.le_of_ble_eq_true rfl)).mono ?_; rintro e w5 ⟨rfl, hx⟩; have HX5 := Lib.hid (ext_trans HX4.out hx); clear hx)
  refine mixQ_mk (over_of HX5.out) (mix_reads ?_)
  repeat (go_big_quiet_step (fail))
  refine wpQuiet_nil (mix_end ?_)
  go_wp2
  go_ret
  exact Ret.mk (ext_trans (ext_alloc _ (ext_refl w)) HX5.out)

theorem state_spec (p : Pl) (x : Int) : PlaceSpec p (wrap64 (p.nodW x)) [⟨x, 0, wrap64 (p.n - 1)⟩] (p.stF x) := by
  refine PlaceSpec.mk (by unfold Pl.stF; rfl) (fun hk => ?_) (fun hk hq => ?_)
  · have hl := Pl.lim hk
    simp only [bd_cons, bd_nil, and_true]
    exact most_of hl.1.1 hl.1.2
  · have hb := Pl.nod_in hk (x := x) (by omega) (by omega); rw [Pl.nodW_eq hk (by omega) (by omega), IntWalk.wrap64_in _ (by omega)]

set_option maxHeartbeats 800000 in
theorem state_any (p : Pl) (x : Int) (w : World) : Calls Try.prog 21 #[plV p, .int .i64 x] w (Ret (.int .i64 (p.stF x)) w) := by
  go_enter Try.func21, Try.ntmps21
  go_wp2
  refine wp_region_mix (fun w' => ∃ s, w' = over (w.alloc (.cells #[.int .i64 p.n, .int .i64 p.t, .int .i64 p.r, .int .i64 p.d, .int .i64 p.b, .int .i64 p.g] 23)) s) [(0, [0, 1, 2, 5, 6, 7]), (1, [3]), (0, [4]), (1, [8]), (1, [9]), (1, [10]), (0, [11])] (by kernel_rfl) (by kernel_rfl) (over_of (ext_drew (ext_refl _))) ?_
  simp only [pieces, pickL, List.map_cons, List.map_nil, List.getD_cons_zero, List.getD_cons_succ]
  have HX0 := Lib.hid (ext_drew (ext_refl (w.alloc (.cells #[.int .i64 p.n, .int .i64 p.t, .int .i64 p.r, .int .i64 p.d, .int .i64 p.b, .int .i64 p.g] 23))))
  refine mix_reads ?_
  repeat (go_big_quiet_step (fail))
  refine wpQuiet_nil (mix_acts ?_)
  go_wp2_with (go_at_call 28; refine (node_any p x _).mono ?_; rintro e w1 ⟨rfl, hx⟩; have HX1 := Lib.hid (ext_trans HX0.out hx); clear hx)
  refine mixQ_mk (over_of HX1.out) (mix_reads ?_)
  repeat (go_big_quiet_step (fail))
  refine wpQuiet_nil (mix_acts ?_)
  go_wp2_with (go_at_call 32; refine (one_any x p.n _).mono ?_; rintro e w2 ⟨rfl, hx⟩; have HX2 := Lib.hid (ext_trans HX1.out hx); clear hx)
  refine mixQ_mk (over_of HX2.out) (mix_acts ?_)
  go_wp2
  have HX3 := Lib.hid (ext_alloc (.cells #[.int .i64 x, .int .i64 0, .int .i64 (wrap64 (p.n - 1))] 43) HX2.out)
  refine mixQ_mk (over_of HX3.out) (mix_acts ?_)
  go_wp2_with (go_at_call 31; refine (place_any p (wrap64 (p.nodW x)) [⟨x, 0, wrap64 (p.n - 1)⟩] _ _ (p.stF x) (Lib.hid (state_spec p x)) (ts_new _ _ _ _ _ _ rfl rfl rfl) (Nat.le_of_ble_eq_true rfl)).mono ?_; rintro e w4 ⟨rfl, hx⟩; have HX4 := Lib.hid (ext_trans HX3.out hx); clear hx)
  refine mixQ_mk (over_of HX4.out) (mix_reads ?_)
  repeat (go_big_quiet_step (fail))
  refine wpQuiet_nil (mix_end ?_)
  go_wp2
  go_ret
  exact Ret.mk (ext_trans (ext_alloc _ (ext_refl w)) HX4.out)

theorem next_spec (p : Pl) (x : Int) : PlaceSpec p (wrap64 (p.nodW x + 1)) [⟨x, 0, wrap64 (p.n - 1)⟩] (p.nxF x) := by
  refine PlaceSpec.mk (by unfold Pl.nxF; rfl) (fun hk => ?_) (fun hk hq => ?_)
  · have hl := Pl.lim hk
    simp only [bd_cons, bd_nil, and_true]
    exact most_of hl.1.1 hl.1.2
  · have hb := Pl.nod_in hk (x := x) (by omega) (by omega); rw [Pl.nodW_eq hk (by omega) (by omega), IntWalk.wrap64_in _ (by omega)]

set_option maxHeartbeats 800000 in
theorem next_any (p : Pl) (x : Int) (w : World) : Calls Try.prog 25 #[plV p, .int .i64 x] w (Ret (.int .i64 (p.nxF x)) w) := by
  go_enter Try.func25, Try.ntmps25
  go_wp2
  refine wp_region_mix (fun w' => ∃ s, w' = over (w.alloc (.cells #[.int .i64 p.n, .int .i64 p.t, .int .i64 p.r, .int .i64 p.d, .int .i64 p.b, .int .i64 p.g] 23)) s) [(0, [0, 1, 2, 5, 6, 7]), (1, [3]), (0, [4]), (1, [8]), (1, [9]), (1, [10]), (0, [11])] (by kernel_rfl) (by kernel_rfl) (over_of (ext_drew (ext_refl _))) ?_
  simp only [pieces, pickL, List.map_cons, List.map_nil, List.getD_cons_zero, List.getD_cons_succ]
  have HX0 := Lib.hid (ext_drew (ext_refl (w.alloc (.cells #[.int .i64 p.n, .int .i64 p.t, .int .i64 p.r, .int .i64 p.d, .int .i64 p.b, .int .i64 p.g] 23))))
  refine mix_reads ?_
  repeat (go_big_quiet_step (fail))
  refine wpQuiet_nil (mix_acts ?_)
  go_wp2_with (go_at_call 28; refine (node_any p x _).mono ?_; rintro e w1 ⟨rfl, hx⟩; have HX1 := Lib.hid (ext_trans HX0.out hx); clear hx)
  refine mixQ_mk (over_of HX1.out) (mix_reads ?_)
  repeat (go_big_quiet_step (fail))
  refine wpQuiet_nil (mix_acts ?_)
  go_wp2_with (go_at_call 32; refine (one_any x p.n _).mono ?_; rintro e w2 ⟨rfl, hx⟩; have HX2 := Lib.hid (ext_trans HX1.out hx); clear hx)
  refine mixQ_mk (over_of HX2.out) (mix_acts ?_)
  go_wp2
  have HX3 := Lib.hid (ext_alloc (.cells #[.int .i64 x, .int .i64 0, .int .i64 (wrap64 (p.n - 1))] 43) HX2.out)
  refine mixQ_mk (over_of HX3.out) (mix_acts ?_)
  go_wp2_with (go_at_call 31; refine (place_any p (wrap64 (p.nodW x + 1)) [⟨x, 0, wrap64 (p.n - 1)⟩] _ _ (p.nxF x) (Lib.hid (next_spec p x)) (ts_new _ _ _ _ _ _ rfl rfl rfl) (Nat.le_of_ble_eq_true rfl)).mono ?_; rintro e w4 ⟨rfl, hx⟩; have HX4 := Lib.hid (ext_trans HX3.out hx); clear hx)
  refine mixQ_mk (over_of HX4.out) (mix_reads ?_)
  repeat (go_big_quiet_step (fail))
  refine wpQuiet_nil (mix_end ?_)
  go_wp2
  go_ret
  exact Ret.mk (ext_trans (ext_alloc _ (ext_refl w)) HX4.out)

theorem field_spec (p : Pl) (x i : Int) : PlaceSpec p (wrap64 (wrap64 (p.nodW x + 2) + i)) [⟨x, 0, wrap64 (p.n - 1)⟩, ⟨i, 0, wrap64 2⟩] (p.fdF x i) := by
  refine PlaceSpec.mk (by unfold Pl.fdF; rfl) (fun hk => ?_) (fun hk hq => ?_)
  · have hl := Pl.lim hk
    simp only [bd_cons, bd_nil, and_true]
    exact and_congr (most_of hl.1.1 hl.1.2) ((show (0 ≤ i ∧ i ≤ wrap64 2) ↔ (0 ≤ i ∧ i < 3) by rw [IntWalk.wrap64_in 2 (by omega)]; omega))
  · have hb := Pl.nod_in hk (x := x) (by omega) (by omega); rw [Pl.nodW_eq hk (by omega) (by omega), IntWalk.wrap64_in (p.nod x + 2) (by omega), IntWalk.wrap64_in _ (by omega)]

set_option maxHeartbeats 800000 in
theorem field_any (p : Pl) (x i : Int) (w : World) : Calls Try.prog 19 #[plV p, .int .i64 x, .int .i64 i] w (Ret (.int .i64 (p.fdF x i)) w) := by
  go_enter Try.func19, Try.ntmps19
  go_wp2
  refine wp_region_mix (fun w' => ∃ s, w' = over (w.alloc (.cells #[.int .i64 p.n, .int .i64 p.t, .int .i64 p.r, .int .i64 p.d, .int .i64 p.b, .int .i64 p.g] 23)) s) [(0, [0, 1, 2, 5, 7, 8, 9, 11]), (1, [3]), (0, [4, 6]), (1, [10]), (1, [12]), (1, [13]), (1, [14]), (0, [15])] (by kernel_rfl) (by kernel_rfl) (over_of (ext_drew (ext_refl _))) ?_
  simp only [pieces, pickL, List.map_cons, List.map_nil, List.getD_cons_zero, List.getD_cons_succ]
  have HX0 := Lib.hid (ext_drew (ext_refl (w.alloc (.cells #[.int .i64 p.n, .int .i64 p.t, .int .i64 p.r, .int .i64 p.d, .int .i64 p.b, .int .i64 p.g] 23))))
  refine mix_reads ?_
  repeat (go_big_quiet_step (fail))
  refine wpQuiet_nil (mix_acts ?_)
  go_wp2_with (go_at_call 28; refine (node_any p x _).mono ?_; rintro e w1 ⟨rfl, hx⟩; have HX1 := Lib.hid (ext_trans HX0.out hx); clear hx)
  refine mixQ_mk (over_of HX1.out) (mix_reads ?_)
  repeat (go_big_quiet_step (fail))
  refine wpQuiet_nil (mix_acts ?_)
  go_wp2_with (go_at_call 32; refine (one_any x p.n _).mono ?_; rintro e w2 ⟨rfl, hx⟩; have HX2 := Lib.hid (ext_trans HX1.out hx); clear hx)
  refine mixQ_mk (over_of HX2.out) (mix_acts ?_)
  go_wp2_with (go_at_call 32; refine (one_any i 3 _).mono ?_; rintro e w3 ⟨rfl, hx⟩; have HX3 := Lib.hid (ext_trans HX2.out hx); clear hx)
  refine mixQ_mk (over_of HX3.out) (mix_acts ?_)
  go_wp2
  have HX4 := Lib.hid (ext_alloc (.cells #[.int .i64 x, .int .i64 0, .int .i64 (wrap64 (p.n - 1)), .int .i64 i, .int .i64 0, .int .i64 (wrap64 2)] 43) HX3.out)
  refine mixQ_mk (over_of HX4.out) (mix_acts ?_)
  go_wp2_with (go_at_call 31; refine (place_any p (wrap64 (wrap64 (p.nodW x + 2) + i)) [⟨x, 0, wrap64 (p.n - 1)⟩, ⟨i, 0, wrap64 2⟩] _ _ (p.fdF x i) (Lib.hid (field_spec p x i)) (ts_new _ _ _ _ _ _ rfl rfl rfl) (Nat.le_of_ble_eq_true rfl)).mono ?_; rintro e w5 ⟨rfl, hx⟩; have HX5 := Lib.hid (ext_trans HX4.out hx); clear hx)
  refine mixQ_mk (over_of HX5.out) (mix_reads ?_)
  repeat (go_big_quiet_step (fail))
  refine wpQuiet_nil (mix_end ?_)
  go_wp2
  go_ret
  exact Ret.mk (ext_trans (ext_alloc _ (ext_refl w)) HX5.out)

set_option maxHeartbeats 400000 in
theorem head_any (p : Pl) (w : World) : Calls Try.prog 20 #[plV p] w (Ret (.int .i64 p.headF) w) := by
  have HS : Hid (PlaceSpec p 0 [] p.headF) := Lib.hid ⟨fun h _ => by unfold Pl.headF; rw [if_pos h], fun h => by unfold Pl.headF; rw [if_neg fun hk => h ⟨hk, bd_nil⟩]⟩
  go_enter Try.func20, Try.ntmps20
  go_wp2_with (go_at_call 31; refine (place_any p 0 [] _ _ p.headF HS (ts_nil _) (by decide)).mono ?_; rintro e w' hr; obtain ⟨rfl, s, rfl⟩ := hr.over; clear hr)
  go_ret
  exact Ret.mk (by repeat (first | exact ext_refl _ | apply ext_over | apply ext_alloc))

set_option maxHeartbeats 400000 in
theorem size_any (p : Pl) (w : World) : Calls Try.prog 12 #[plV p] w (Ret (.int .i64 p.sizeF) w) := by
  by_cases hk : p.ok
  · have E : Hid (p.nodW p.n = p.sizeF) := Lib.hid (by unfold Pl.sizeF; rw [if_pos hk]; exact Pl.nodW_eq hk (by unfold Pl.ok at hk; omega) (Int.le_refl _))
    have F := Lib.hid hk
    clear hk
    go_enter Try.func12, Try.ntmps12
    go_wp2_with (first | (go_at_call 11; refine (formed_any p _ true (hid_yes F.out)).mono ?_; rintro e w' hr; obtain ⟨rfl, s, rfl⟩ := hr.over; clear hr) | (go_at_call 28; refine (node_any p p.n _).mono ?_; rintro e w' hr; obtain ⟨rfl, s1, rfl⟩ := hr.over; clear hr))
    go_ret
    exact Ret.int E.out (by repeat (first | exact ext_refl _ | apply ext_over | apply ext_alloc))
  · have E : Hid (0 = p.sizeF) := Lib.hid (by unfold Pl.sizeF; rw [if_neg hk])
    have F := Lib.hid hk
    clear hk
    go_enter Try.func12, Try.ntmps12
    go_wp2_with (go_at_call 11; refine (formed_any p _ false (hid_no F.out)).mono ?_; rintro e w' hr; obtain ⟨rfl, s, rfl⟩ := hr.over; clear hr)
    go_ret
    exact Ret.int E.out (by repeat (first | exact ext_refl _ | apply ext_over | apply ext_alloc))

set_option maxHeartbeats 400000 in
theorem cellsF_any (p : Pl) (w : World) : Calls Try.prog 13 #[plV p] w (Ret (.int .i64 p.cellsF) w) := by
  by_cases hk : p.ok
  · have E : Hid (p.c = p.cellsF) := Lib.hid (by unfold Pl.cellsF; rw [if_pos hk])
    have F := Lib.hid hk
    clear hk
    go_enter Try.func13, Try.ntmps13
    go_wp2_with (first | (go_at_call 11; refine (formed_any p _ true (hid_yes F.out)).mono ?_; rintro e w' hr; obtain ⟨rfl, s, rfl⟩ := hr.over; clear hr) | (go_at_call 29; refine (cells_any p _).mono ?_; rintro e w' hr; obtain ⟨rfl, s1, rfl⟩ := hr.over; clear hr))
    go_ret
    exact Ret.int E.out (by repeat (first | exact ext_refl _ | apply ext_over | apply ext_alloc))
  · have E : Hid (0 = p.cellsF) := Lib.hid (by unfold Pl.cellsF; rw [if_neg hk])
    have F := Lib.hid hk
    clear hk
    go_enter Try.func13, Try.ntmps13
    go_wp2_with (go_at_call 11; refine (formed_any p _ false (hid_no F.out)).mono ?_; rintro e w' hr; obtain ⟨rfl, s, rfl⟩ := hr.over; clear hr)
    go_ret
    exact Ret.int E.out (by repeat (first | exact ext_refl _ | apply ext_over | apply ext_alloc))

end Go.Proofs.Ytdbbbefkahmneaa
