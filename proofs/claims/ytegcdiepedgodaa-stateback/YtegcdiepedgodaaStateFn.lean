/-
  What the calls of package state come to. Conditions: those of each theorem.
-/
import Derived.Test.YtegcdiepedgodaaStateM
import Derived.Test.YtegcdiepedgodaaPack
import Derived.Test.YtegcdiepedgodaaSplit
import Derived.Test.YtegcdiepedgodaaFr
namespace Go.Proofs.Ytegcdiepedgodaa
open Go Go.RowKit

/-- The value of a state. -/
abbrev stV (s : St) : Value := .agg #[.int .i64 s.g, .int .i64 s.m, .int .i64 s.k]

/-- n is from 0 to most. -/
def upF (n most : Int) : Bool := decide (0 ≤ n ∧ n ≤ most)
theorem upF_yes {n most : Int} (h1 : 0 ≤ n) (h2 : n ≤ most) : upF n most = true := decide_eq_true ⟨h1, h2⟩
theorem upF_no {n most : Int} (h : ¬ (0 ≤ n ∧ n ≤ most)) : upF n most = false := decide_eq_false h
attribute [irreducible] upF

set_option maxHeartbeats 400000 in
theorem upTo_any (n most : Int) (w : World) : Calls Try.prog 20 #[.int .i64 n, .int .i64 most] w (Ret (.bool (upF n most)) w) := by
  by_cases h1 : 0 ≤ n
  · by_cases h2 : n ≤ most
    · rw [upF_yes h1 h2]
      go_enter Try.func20, Try.ntmps20
      go_wp2
      go_ret
      exact Ret.mk (by repeat (first | exact ext_refl _ | apply ext_over | apply ext_alloc | (refine ext_set _ ?_ ?_; exact Nat.le_refl _)))
    · rw [upF_no fun h => h2 h.2]
      have h3 : decide (n ≤ most) = false := by simpa using h2
      clear h2
      go_enter Try.func20, Try.ntmps20
      go_wp2
      go_ret
      exact Ret.mk (by repeat (first | exact ext_refl _ | apply ext_over | apply ext_alloc | (refine ext_set _ ?_ ?_; exact Nat.le_refl _)))
  · rw [upF_no fun h => h1 h.1]
    go_enter Try.func20, Try.ntmps20
    go_wp2
    go_ret
    exact Ret.mk (by repeat (first | exact ext_refl _ | apply ext_over | apply ext_alloc | (refine ext_set _ ?_ ?_; exact Nat.le_refl _)))

set_option maxHeartbeats 400000 in
theorem sformed_yes (s : St) (h : s.ok) (w : World) : Calls Try.prog 10 #[stV s] w (Ret (.bool true) w) := by
  have ⟨h1, h2, h3, h4, h5, h6⟩ := h
  have e1 := upF_yes h1 h2
  have e2 := upF_yes h3 h4
  have e3 := upF_yes h5 h6
  clear h h1 h2 h3 h4 h5 h6
  go_enter Try.func10, Try.ntmps10
  go_wp2_with (go_at_call 20; refine (upTo_any _ _ _).mono ?_; rintro e w' hr; obtain ⟨rfl, s, rfl⟩ := hr.over; clear hr)
  go_ret
  exact Ret.mk (by repeat (first | exact ext_refl _ | apply ext_over | apply ext_alloc | (refine ext_set _ ?_ ?_; exact Nat.le_refl _)))

set_option maxHeartbeats 400000 in
theorem sformed_no (s : St) (h : ¬ s.ok) (w : World) : Calls Try.prog 10 #[stV s] w (Ret (.bool false) w) := by
  by_cases c1 : 0 ≤ s.g ∧ s.g ≤ 1073741823
  · have e1 := upF_yes c1.1 c1.2
    by_cases c2 : 0 ≤ s.m ∧ s.m ≤ 3
    · have e2 := upF_yes c2.1 c2.2
      have e3 : upF s.k 2 = false := upF_no fun c3 => h ⟨c1.1, c1.2, c2.1, c2.2, c3.1, c3.2⟩
      clear h c1 c2
      go_enter Try.func10, Try.ntmps10
      go_wp2_with (go_at_call 20; refine (upTo_any _ _ _).mono ?_; rintro e w' hr; obtain ⟨rfl, s, rfl⟩ := hr.over; clear hr)
      go_ret
      exact Ret.mk (by repeat (first | exact ext_refl _ | apply ext_over | apply ext_alloc | (refine ext_set _ ?_ ?_; exact Nat.le_refl _)))
    · have e2 := upF_no c2
      clear h c1 c2
      go_enter Try.func10, Try.ntmps10
      go_wp2_with (go_at_call 20; refine (upTo_any _ _ _).mono ?_; rintro e w' hr; obtain ⟨rfl, s, rfl⟩ := hr.over; clear hr)
      go_ret
      exact Ret.mk (by repeat (first | exact ext_refl _ | apply ext_over | apply ext_alloc | (refine ext_set _ ?_ ?_; exact Nat.le_refl _)))
  · have e1 := upF_no c1
    clear h c1
    go_enter Try.func10, Try.ntmps10
    go_wp2_with (go_at_call 20; refine (upTo_any _ _ _).mono ?_; rintro e w' hr; obtain ⟨rfl, s, rfl⟩ := hr.over; clear hr)
    go_ret
    exact Ret.mk (by repeat (first | exact ext_refl _ | apply ext_over | apply ext_alloc | (refine ext_set _ ?_ ?_; exact Nat.le_refl _)))

set_option maxHeartbeats 400000 in
theorem live_any (s : St) (kind : Int) (w : World) : Calls Try.prog 14 #[stV s, .int .i64 kind] w (Ret (stV ⟨s.g, 1, kind⟩) w) := by
  go_enter Try.func14, Try.ntmps14
  go_wp2
  refine bodyPost_ret (v := stV ⟨s.g, 1, kind⟩) (by simp [results, Try.results14, go_sem]) rfl (Ret.mk (by repeat (first | exact ext_refl _ | apply ext_over | apply ext_alloc | (refine ext_set _ ?_ ?_; exact Nat.le_refl _))))

set_option maxHeartbeats 400000 in
theorem retire_any (s : St) (w : World) : Calls Try.prog 15 #[stV s] w (Ret (stV ⟨s.g, 2, s.k⟩) w) := by
  go_enter Try.func15, Try.ntmps15
  go_wp2
  refine bodyPost_ret (v := stV ⟨s.g, 2, s.k⟩) (by simp [results, Try.results15, go_sem]) rfl (Ret.mk (by repeat (first | exact ext_refl _ | apply ext_over | apply ext_alloc | (refine ext_set _ ?_ ?_; exact Nat.le_refl _))))

set_option maxHeartbeats 400000 in
theorem freed_any (s : St) (most : Int) (w : World) : Calls Try.prog 16 #[stV s, .int .i64 most] w (Ret (stV (s.freed most)) w) := by
  by_cases h : most ≤ s.g
  · have e : s.freed most = ⟨s.g, 3, 0⟩ := by unfold St.freed; rw [if_pos h]
    rw [e]
    clear e
    go_enter Try.func16, Try.ntmps16
    go_wp2
    refine bodyPost_ret (v := stV ⟨s.g, 3, 0⟩) (by simp [results, Try.results16, go_sem]) rfl (Ret.mk (by repeat (first | exact ext_refl _ | apply ext_over | apply ext_alloc | (refine ext_set _ ?_ ?_; exact Nat.le_refl _))))
  · have e : s.freed most = ⟨wrap64 (s.g + 1), 0, 0⟩ := by unfold St.freed; rw [if_neg h]
    rw [e]
    clear e
    go_enter Try.func16, Try.ntmps16
    go_wp2
    refine bodyPost_ret (v := stV ⟨wrap64 (s.g + 1), 0, 0⟩) (by simp [results, Try.results16, go_sem]) rfl (Ret.mk (by repeat (first | exact ext_refl _ | apply ext_over | apply ext_alloc | (refine ext_set _ ?_ ?_; exact Nat.le_refl _))))

set_option maxHeartbeats 400000 in
theorem rfreed_any (s : St) (most : Int) (w : World) : Calls Try.prog 17 #[stV s, .int .i64 most] w (Ret (stV (s.freed most)) w) := by
  by_cases h : most ≤ s.g
  · have e : s.freed most = ⟨s.g, 3, 0⟩ := by unfold St.freed; rw [if_pos h]
    rw [e]
    clear e
    go_enter Try.func17, Try.ntmps17
    go_wp2
    refine bodyPost_ret (v := stV ⟨s.g, 3, 0⟩) (by simp [results, Try.results17, go_sem]) rfl (Ret.mk (by repeat (first | exact ext_refl _ | apply ext_over | apply ext_alloc | (refine ext_set _ ?_ ?_; exact Nat.le_refl _))))
  · have e : s.freed most = ⟨wrap64 (s.g + 1), 0, 0⟩ := by unfold St.freed; rw [if_neg h]
    rw [e]
    clear e
    go_enter Try.func17, Try.ntmps17
    go_wp2
    refine bodyPost_ret (v := stV ⟨wrap64 (s.g + 1), 0, 0⟩) (by simp [results, Try.results17, go_sem]) rfl (Ret.mk (by repeat (first | exact ext_refl _ | apply ext_over | apply ext_alloc | (refine ext_set _ ?_ ?_; exact Nat.le_refl _))))

/-- The value of the array of fields. -/
abbrev layV : Value := .agg #[.int .i64 0, .int .i64 30, .int .i64 30, .int .i64 2, .int .i64 32, .int .i64 2]
set_option maxHeartbeats 400000 in
theorem slayout_any (w : World) : Calls Try.prog 18 #[] w (Ret layV w) := by
  go_enter Try.func18, Try.ntmps18
  go_wp2
  refine bodyPost_ret (v := layV) (by simp [results, Try.results18, go_sem]) rfl (Ret.mk (by repeat (first | exact ext_refl _ | apply ext_over | apply ext_alloc | (refine ext_set _ ?_ ?_; exact Nat.le_refl _))))

/-- The value of the array of numbers. -/
abbrev numV (s : St) : Value := .agg #[.int .u64 (U (bvI s.g)), .int .u64 (U (bvI s.m)), .int .u64 (U (bvI s.k))]
set_option maxHeartbeats 400000 in
theorem numbers_any (s : St) (h : s.ok) (w : World) : Calls Try.prog 21 #[stV s] w (Ret (numV s) w) := by
  obtain ⟨h1, h2, h3, h4, h5, h6⟩ := h
  unfold numV
  rw [U_bvI _ h1 (by omega), U_bvI _ h3 (by omega), U_bvI _ h5 (by omega)]
  go_enter Try.func21, Try.ntmps21
  go_wp2
  refine bodyPost_ret (v := .agg #[.int .u64 s.g, .int .u64 s.m, .int .u64 s.k]) (by simp [results, Try.results21, go_sem]) rfl (Ret.mk (by repeat (first | exact ext_refl _ | apply ext_over | apply ext_alloc | (refine ext_set _ ?_ ?_; exact Nat.le_refl _))))

end Go.Proofs.Ytegcdiepedgodaa
