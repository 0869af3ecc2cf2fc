/-
  What the reference's calls that only read come to: Cap, Good, Peek. Conditions: those of each theorem.
-/
import Derived.Test.YthepcnffadjeaaaMemRefM
namespace Go.Proofs.Ythepcnffadjeaaa
open Go Go.RowKit

section
variable {b0 : Nat → Prop} {R : RL} {M : MS} {w : World}

set_option maxHeartbeats 400000 in
theorem rcap_yes (h : RefIn b0 R M w) (r : Nat) (hr : r < M.n) :
    Calls Try.prog 32 #[refV R M, .int .i64 (r : Int)] w (Ret (.agg #[.int .i64 (r : Int), .int .u64 (U (M.ep r))]) w) := by
  have c0 := h.eR r hr
  have e0 := (h.eA (by omega)).1
  have l0 := (h.eA (by omega)).2.2
  unfold refV
  rw [e0]
  have h65 := h.few
  clear h e0
  go_enter Try.func32, Try.ntmps32
  go_wp2
  exact bodyPost_ret (v := .agg #[.int .i64 (r : Int), .int .u64 (U (M.ep r))]) (by simp [results, Try.results32, go_sem]) rfl (Ret.mk (by repeat (first | exact ext_refl _ | apply ext_over | apply ext_alloc | (refine ext_set _ ?_ ?_; exact Nat.le_refl _))))

set_option maxHeartbeats 400000 in
theorem rcap_no (h : RefIn b0 R M w) (r : Int) (hr : ¬ (0 ≤ r ∧ r < M.n)) :
    Calls Try.prog 32 #[refV R M, .int .i64 r] w (Ret (.agg #[.int .i64 0, .int .u64 0]) w) := by
  have h65 := h.few
  unfold refV
  clear h
  by_cases h0 : 0 ≤ r
  · have h1 : (M.n : Int) ≤ r := by omega
    clear hr
    go_enter Try.func32, Try.ntmps32
    go_wp2
    exact bodyPost_ret (v := .agg #[.int .i64 0, .int .u64 0]) (by simp [results, Try.results32, go_sem]) rfl (Ret.mk (by repeat (first | exact ext_refl _ | apply ext_over | apply ext_alloc | (refine ext_set _ ?_ ?_; exact Nat.le_refl _))))
  · have h1 : r < 0 := by omega
    clear hr h0
    go_enter Try.func32, Try.ntmps32
    go_wp2
    exact bodyPost_ret (v := .agg #[.int .i64 0, .int .u64 0]) (by simp [results, Try.results32, go_sem]) rfl (Ret.mk (by repeat (first | exact ext_refl _ | apply ext_over | apply ext_alloc | (refine ext_set _ ?_ ?_; exact Nat.le_refl _))))

set_option maxHeartbeats 400000 in
theorem rgood_yes (h : RefIn b0 R M w) (r : Nat) (e : BitVec 64) (hr : r < M.n) (he : Hid (M.ep r = e)) :
    Calls Try.prog 47 #[refV R M, .agg #[.int .i64 (r : Int), .int .u64 (U e)]] w (Ret (.bool true) w) := by
  have c0 := h.eR r hr
  rw [he.out] at c0
  have e0 := (h.eA (by omega)).1
  have l0 := (h.eA (by omega)).2.2
  have l1 : R.be < w.heap.size + 1 + 1 := by omega
  have h65 := h.few
  have g0 : decide ((r : Int) < (M.n : Int)) = true := by simp; omega
  have g2 : (0 : Int) ≤ (r : Int) := by omega
  have g3 : (r : Int) < (M.n : Int) := by omega
  unfold refV
  rw [e0]
  clear h e0
  go_enter Try.func47, Try.ntmps47
  go_wp2
  refine wp_region_over (by kernel_rfl) (by kernel_rfl) ?_
  repeat (go_big_quiet_step (fail))
  refine wpQuiet_nil ?_
  intro _ hw'
  obtain ⟨s, hw''⟩ := hw'
  subst hw''
  go_wp2
  go_ret
  exact Ret.mk (by repeat (first | exact ext_refl _ | apply ext_over | apply ext_alloc))

set_option maxHeartbeats 400000 in
theorem rgood_no (h : RefIn b0 R M w) (r : Int) (e : BitVec 64) (hn : ¬ Good M r e) :
    Calls Try.prog 47 #[refV R M, .agg #[.int .i64 r, .int .u64 (U e)]] w (Ret (.bool false) w) := by
  have h65 := h.few
  by_cases h0 : 0 ≤ r
  · by_cases h1 : r < M.n
    · obtain ⟨q, rfl⟩ := Int.eq_ofNat_of_zero_le h0
      have hq : q < M.n := by omega
      have c0 := h.eR q hq
      have e0 := (h.eA (by omega)).1
      have l0 := (h.eA (by omega)).2.2
      have l1 : R.be < w.heap.size + 1 + 1 := by omega
      have g0 : decide ((q : Int) < (M.n : Int)) = true := by simp; omega
      have q1 : (U (M.ep q) == U e) = false := by
        rw [beq_eq_false_iff_ne]; intro hh
        exact hn ⟨h0, h1, by rw [show ((q : Nat) : Int).toNat = q by omega]; exact U_inj hh⟩
      unfold refV
      rw [e0]
      clear h e0 hn
      go_enter Try.func47, Try.ntmps47
      go_wp2
      refine wp_region_over (by kernel_rfl) (by kernel_rfl) ?_
      repeat (go_big_quiet_step (fail))
      refine wpQuiet_nil ?_
      intro _ hw'
      obtain ⟨s, hw''⟩ := hw'
      subst hw''
      go_wp2
      go_ret
      exact Ret.mk (by repeat (first | exact ext_refl _ | apply ext_over | apply ext_alloc))
    · have g0 : decide (r < (M.n : Int)) = false := by simpa using h1
      unfold refV
      clear h hn h1
      go_enter Try.func47, Try.ntmps47
      go_wp2
      refine wp_region_over (by kernel_rfl) (by kernel_rfl) ?_
      repeat (go_big_quiet_step (fail))
      refine wpQuiet_nil ?_
      intro _ hw'
      obtain ⟨s, hw''⟩ := hw'
      subst hw''
      go_wp2
      go_ret
      exact Ret.mk (by repeat (first | exact ext_refl _ | apply ext_over | apply ext_alloc))
  · have g0 : decide (0 ≤ r) = false := by simpa using h0
    unfold refV
    clear h hn h0
    go_enter Try.func47, Try.ntmps47
    go_wp2
    refine wp_region_over (by kernel_rfl) (by kernel_rfl) ?_
    repeat (go_big_quiet_step (fail))
    refine wpQuiet_nil ?_
    intro _ hw'
    obtain ⟨s, hw''⟩ := hw'
    subst hw''
    go_wp2
    go_ret
    exact Ret.mk (by repeat (first | exact ext_refl _ | apply ext_over | apply ext_alloc))

set_option maxHeartbeats 400000 in
theorem rpeek_yes (h : RefIn b0 R M w) (r j : Nat) (hr : r < M.n) (hj : j < M.sz r) :
    Calls Try.prog 24 #[refV R M, .int .i64 (r : Int), .int .i64 (j : Int)] w (Ret (.int .u64 (U (M.wd r j))) w) := by
  have c0 := h.wR r hr
  have c1 := h.xR r j hr hj
  have e0 := (h.wA (by omega)).1
  have l0 := (h.wA (by omega)).2.2
  have l1 := (h.xA r hr).2
  have h65 := h.few
  have hs := h.small r hr
  unfold refV
  rw [e0]
  clear h e0
  go_enter Try.func24, Try.ntmps24
  go_wp2
  go_ret
  exact Ret.mk (by repeat (first | exact ext_refl _ | apply ext_over | apply ext_alloc))

set_option maxHeartbeats 400000 in
/-- Of a region that is there, a word that isn't. -/
theorem rpeek_no (h : RefIn b0 R M w) (r : Nat) (j : Int) (hr : r < M.n) (hj : ¬ (0 ≤ j ∧ j < M.sz r)) :
    Calls Try.prog 24 #[refV R M, .int .i64 (r : Int), .int .i64 j] w (Ret (.int .u64 0) w) := by
  have c0 := h.wR r hr
  have e0 := (h.wA (by omega)).1
  have l0 := (h.wA (by omega)).2.2
  have h65 := h.few
  have hs := h.small r hr
  unfold refV
  rw [e0]
  clear h e0
  by_cases h0 : 0 ≤ j
  · have h1 : (M.sz r : Int) ≤ j := by omega
    clear hj
    go_enter Try.func24, Try.ntmps24
    go_wp2
    go_ret
    exact Ret.mk (by repeat (first | exact ext_refl _ | apply ext_over | apply ext_alloc))
  · have h1 : j < 0 := by omega
    clear hj h0
    go_enter Try.func24, Try.ntmps24
    go_wp2
    go_ret
    exact Ret.mk (by repeat (first | exact ext_refl _ | apply ext_over | apply ext_alloc))
end
end Go.Proofs.Ythepcnffadjeaaa
