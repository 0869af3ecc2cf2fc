/-
  What the calls of package mem come to: Good, Cap, Bump, Do, Peek, Count, Regions, Size. Conditions: those of each theorem.
-/
import Derived.Test.YthepcnffadjeaaaMemFns
namespace Go.Proofs.Ythepcnffadjeaaa
open Go Go.RowKit

section
variable {lo hi : Nat} {L : Lay} {M : MS} {w : World}

set_option maxHeartbeats 400000 in
theorem good_yes (h : MemIn lo hi L M w) (r : Nat) (e : BitVec 64) (hr : r < M.n) (he : Hid (M.ep r = e)) :
    Calls Try.prog 52 #[.pointer (some ⟨L.bm, 0, none⟩), .agg #[.int .i64 (r : Int), .int .u64 (U e)]] w (Ret (.bool true) w) := by
  have c0 := h.r1 hr
  have hlt := h.lt (h.reg r hr).2.1
  rw [he.out] at c0
  have H := Lib.hid h
  clear h he
  go_enter Try.func52, Try.ntmps52
  go_wp2_with (go_at_call 30; refine (find_yes (H.out.alloc _) r hr).mono ?_; rintro e w' ⟨rfl, rfl⟩)
  refine wp_region_over (by kernel_rfl) (by kernel_rfl) ?_
  repeat (go_big_quiet_step (fail))
  refine wpQuiet_nil ?_
  intro _ hw'
  obtain ⟨s, hw''⟩ := hw'
  subst hw''
  go_wp2
  go_ret
  exact Ret.mk (by repeat (first | exact ext_refl _ | apply ext_over | apply ext_alloc))

set_option maxHeartbeats 400000 in
theorem good_no (h : MemIn lo hi L M w) (r : Int) (e : BitVec 64) (hn : ¬ Good M r e) :
    Calls Try.prog 52 #[.pointer (some ⟨L.bm, 0, none⟩), .agg #[.int .i64 r, .int .u64 (U e)]] w (Ret (.bool false) w) := by
  by_cases hr : 0 ≤ r ∧ r < M.n
  · obtain ⟨q, rfl⟩ := Int.eq_ofNat_of_zero_le hr.1
    have hr' : q < M.n := by omega
    have c0 := h.r1 hr'
    have hlt := h.lt (h.reg q hr').2.1
    have H := Lib.hid h
    have q1 : (U (M.ep q) == U e) = false := by
      rw [beq_eq_false_iff_ne]; intro hh
      exact hn ⟨hr.1, hr.2, by rw [show ((q : Nat) : Int).toNat = q by omega]; exact U_inj hh⟩
    clear h hn hr
    go_enter Try.func52, Try.ntmps52
    go_wp2_with (go_at_call 30; refine (find_yes (H.out.alloc _) q hr').mono ?_; rintro e w' ⟨rfl, rfl⟩)
    refine wp_region_over (by kernel_rfl) (by kernel_rfl) ?_
    repeat (go_big_quiet_step (fail))
    refine wpQuiet_nil ?_
    intro _ hw'
    obtain ⟨s, hw''⟩ := hw'
    subst hw''
    go_wp2
    go_ret
    exact Ret.mk (by repeat (first | exact ext_refl _ | apply ext_over | apply ext_alloc))
  · have H := Lib.hid h
    have HR := Lib.hid hr
    clear h hn hr
    go_enter Try.func52, Try.ntmps52
    go_wp2_with (go_at_call 30; refine (find_no (H.out.alloc _) r HR.out).mono ?_; rintro e w' ⟨rfl, rfl⟩)
    refine wp_region_over (by kernel_rfl) (by kernel_rfl) ?_
    repeat (go_big_quiet_step (fail))
    refine wpQuiet_nil ?_
    intro _ hw'
    obtain ⟨s, hw''⟩ := hw'
    subst hw''
    go_wp2
    go_ret
    exact Ret.mk (by repeat (first | exact ext_refl _ | apply ext_over | apply ext_alloc))

set_option maxHeartbeats 400000 in
theorem cap_yes (h : MemIn lo hi L M w) (r : Nat) (hr : r < M.n) :
    Calls Try.prog 13 #[.pointer (some ⟨L.bm, 0, none⟩), .int .i64 (r : Int)] w (Ret (.agg #[.int .i64 (r : Int), .int .u64 (U (M.ep r))]) w) := by
  have c0 := h.r1 hr
  have hlt := h.lt (h.reg r hr).2.1
  have H := Lib.hid h
  clear h
  go_enter Try.func13, Try.ntmps13
  go_wp2_with (go_at_call 30; refine (find_yes (H.out.alloc _) r hr).mono ?_; rintro e w' ⟨rfl, rfl⟩)
  exact bodyPost_ret (v := .agg #[.int .i64 (r : Int), .int .u64 (U (M.ep r))]) (by simp [results, Try.results13, go_sem]) rfl (Ret.mk (by repeat (first | exact ext_refl _ | apply ext_over | apply ext_alloc | (refine ext_set _ ?_ ?_; exact Nat.le_refl _))))

set_option maxHeartbeats 400000 in
theorem cap_no (h : MemIn lo hi L M w) (r : Int) (hr : ¬ (0 ≤ r ∧ r < M.n)) :
    Calls Try.prog 13 #[.pointer (some ⟨L.bm, 0, none⟩), .int .i64 r] w (Ret (.agg #[.int .i64 0, .int .u64 0]) w) := by
  have H := Lib.hid h
  have HR := Lib.hid hr
  clear h hr
  go_enter Try.func13, Try.ntmps13
  go_wp2_with (go_at_call 30; refine (find_no (H.out.alloc _) r HR.out).mono ?_; rintro e w' ⟨rfl, rfl⟩)
  exact bodyPost_ret (v := .agg #[.int .i64 0, .int .u64 0]) (by simp [results, Try.results13, go_sem]) rfl (Ret.mk (by repeat (first | exact ext_refl _ | apply ext_over | apply ext_alloc | (refine ext_set _ ?_ ?_; exact Nat.le_refl _))))

set_option maxHeartbeats 400000 in
theorem count_any (h : MemIn lo hi L M w) :
    Calls Try.prog 25 #[.pointer (some ⟨L.bm, 0, none⟩)] w (Ret (.int .i64 M.ct) w) := by
  have c0 := h.m1
  clear h
  go_enter Try.func25, Try.ntmps25
  go_wp2
  go_ret
  exact Ret.mk (ext_refl _)

set_option maxHeartbeats 400000 in
theorem peek_yes (h : MemIn lo hi L M w) (r j : Nat) (hr : r < M.n) (hj : j < M.sz r) :
    Calls Try.prog 23 #[.pointer (some ⟨L.bm, 0, none⟩), .int .i64 (r : Int), .int .i64 (j : Int)] w (Ret (.int .u64 (U (M.wd r j))) w) := by
  have c0 := h.r0 hr
  have c1 := h.x hr hj
  have hs := h.small r hr
  have H := Lib.hid h
  clear h
  go_enter Try.func23, Try.ntmps23
  go_wp2_with (first
    | (go_at_call 30; refine (find_yes H.out r hr).mono ?_; rintro e w' ⟨rfl, rfl⟩)
    | (go_at_call 40; refine (has_yes H.out r hr j hj).mono ?_; rintro e w' ⟨rfl, rfl⟩))
  go_ret
  exact Ret.mk (ext_refl _)

set_option maxHeartbeats 400000 in
theorem peek_no (h : MemIn lo hi L M w) (r j : Int) (hn : ¬ (0 ≤ r ∧ r < M.n ∧ 0 ≤ j ∧ j < M.sz r.toNat)) :
    Calls Try.prog 23 #[.pointer (some ⟨L.bm, 0, none⟩), .int .i64 r, .int .i64 j] w (Ret (.int .u64 0) w) := by
  by_cases hr : 0 ≤ r ∧ r < M.n
  · obtain ⟨q, rfl⟩ := Int.eq_ofNat_of_zero_le hr.1
    have hr' : q < M.n := by omega
    have HJ : Hid (¬ (0 ≤ j ∧ j < M.sz q)) := Lib.hid fun hj => hn ⟨hr.1, hr.2, hj.1, by rw [show ((q : Nat) : Int).toNat = q by omega]; exact hj.2⟩
    have H := Lib.hid h
    clear h hn hr
    go_enter Try.func23, Try.ntmps23
    go_wp2_with (first
      | (go_at_call 30; refine (find_yes H.out q hr').mono ?_; rintro e w' ⟨rfl, rfl⟩)
      | (go_at_call 40; refine (has_no H.out q hr' j HJ.out).mono ?_; rintro e w' ⟨rfl, rfl⟩))
    go_ret
    exact Ret.mk (ext_refl _)
  · have H := Lib.hid h
    have HR := Lib.hid hr
    clear h hr hn
    go_enter Try.func23, Try.ntmps23
    go_wp2_with (go_at_call 30; refine (find_no H.out r HR.out).mono ?_; rintro e w' ⟨rfl, rfl⟩)
    go_ret
    exact Ret.mk (ext_refl _)
end
end Go.Proofs.Ythepcnffadjeaaa
