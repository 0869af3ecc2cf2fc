/-
  PlanGreat: the call's ways, walked. Conditions: those of each theorem.
-/
import Derived.Test.YtdbbbefkahmneaaPlanIs
namespace Go.Proofs.Ytdbbbefkahmneaa
open Go Go.RowKit

theorem great_formed (w : World) : Calls Try.prog 11 #[.agg #[.int .i64 1048576, .int .i64 16, .int .i64 1024, .int .i64 64, .int .i64 256, .int .i64 1073741823]] w (Ret (.bool true) w) := by
  have h := formed_any ⟨1048576, 16, 1024, 64, 256, 1073741823⟩ w true (hid_yes (by decide))
  dsimp only [plV] at h
  exact h
def gfd (x i : Int) : Int := Pl.fdF ⟨1048576, 16, 1024, 64, 256, 1073741823⟩ x i
theorem gfd_last : gfd 1048575 2 = 5275776 := by decide
theorem gfd_none : gfd 1048576 0 = -1 := by decide
theorem great_field (x i : Int) (w : World) : Calls Try.prog 19 #[.agg #[.int .i64 1048576, .int .i64 16, .int .i64 1024, .int .i64 64, .int .i64 256, .int .i64 1073741823], .int .i64 x, .int .i64 i] w (Ret (.int .i64 (gfd x i)) w) := by
  have h := field_any ⟨1048576, 16, 1024, 64, 256, 1073741823⟩ x i w
  dsimp only [plV] at h
  exact h
attribute [irreducible] gfd
theorem great_size (w : World) : Calls Try.prog 12 #[.agg #[.int .i64 1048576, .int .i64 16, .int .i64 1024, .int .i64 64, .int .i64 256, .int .i64 1073741823]] w (Ret (.int .i64 5275777) w) := by
  have h := size_is ⟨1048576, 16, 1024, 64, 256, 1073741823⟩ w 5275777 (Lib.hid (by decide))
  dsimp only [plV] at h
  exact h
theorem more_formed0 (w : World) : Calls Try.prog 11 #[.agg #[.int .i64 1048577, .int .i64 16, .int .i64 1024, .int .i64 64, .int .i64 256, .int .i64 1073741823]] w (Ret (.bool false) w) := by
  have h := formed_any ⟨1048577, 16, 1024, 64, 256, 1073741823⟩ w false (hid_no (by decide))
  dsimp only [plV] at h
  exact h
theorem more_size0 (w : World) : Calls Try.prog 12 #[.agg #[.int .i64 1048577, .int .i64 16, .int .i64 1024, .int .i64 64, .int .i64 256, .int .i64 1073741823]] w (Ret (.int .i64 0) w) := by
  have h := size_is ⟨1048577, 16, 1024, 64, 256, 1073741823⟩ w 0 (Lib.hid (by decide))
  dsimp only [plV] at h
  exact h
theorem more_head0 (w : World) : Calls Try.prog 20 #[.agg #[.int .i64 1048577, .int .i64 16, .int .i64 1024, .int .i64 64, .int .i64 256, .int .i64 1073741823]] w (Ret (.int .i64 (-1)) w) := by
  have h := head_is ⟨1048577, 16, 1024, 64, 256, 1073741823⟩ w (-1) (Lib.hid (by decide))
  dsimp only [plV] at h
  exact h
theorem more_formed1 (w : World) : Calls Try.prog 11 #[.agg #[.int .i64 1048576, .int .i64 17, .int .i64 1024, .int .i64 64, .int .i64 256, .int .i64 1073741823]] w (Ret (.bool false) w) := by
  have h := formed_any ⟨1048576, 17, 1024, 64, 256, 1073741823⟩ w false (hid_no (by decide))
  dsimp only [plV] at h
  exact h
theorem more_size1 (w : World) : Calls Try.prog 12 #[.agg #[.int .i64 1048576, .int .i64 17, .int .i64 1024, .int .i64 64, .int .i64 256, .int .i64 1073741823]] w (Ret (.int .i64 0) w) := by
  have h := size_is ⟨1048576, 17, 1024, 64, 256, 1073741823⟩ w 0 (Lib.hid (by decide))
  dsimp only [plV] at h
  exact h
theorem more_head1 (w : World) : Calls Try.prog 20 #[.agg #[.int .i64 1048576, .int .i64 17, .int .i64 1024, .int .i64 64, .int .i64 256, .int .i64 1073741823]] w (Ret (.int .i64 (-1)) w) := by
  have h := head_is ⟨1048576, 17, 1024, 64, 256, 1073741823⟩ w (-1) (Lib.hid (by decide))
  dsimp only [plV] at h
  exact h
theorem more_formed2 (w : World) : Calls Try.prog 11 #[.agg #[.int .i64 1048576, .int .i64 16, .int .i64 1025, .int .i64 64, .int .i64 256, .int .i64 1073741823]] w (Ret (.bool false) w) := by
  have h := formed_any ⟨1048576, 16, 1025, 64, 256, 1073741823⟩ w false (hid_no (by decide))
  dsimp only [plV] at h
  exact h
theorem more_size2 (w : World) : Calls Try.prog 12 #[.agg #[.int .i64 1048576, .int .i64 16, .int .i64 1025, .int .i64 64, .int .i64 256, .int .i64 1073741823]] w (Ret (.int .i64 0) w) := by
  have h := size_is ⟨1048576, 16, 1025, 64, 256, 1073741823⟩ w 0 (Lib.hid (by decide))
  dsimp only [plV] at h
  exact h
theorem more_head2 (w : World) : Calls Try.prog 20 #[.agg #[.int .i64 1048576, .int .i64 16, .int .i64 1025, .int .i64 64, .int .i64 256, .int .i64 1073741823]] w (Ret (.int .i64 (-1)) w) := by
  have h := head_is ⟨1048576, 16, 1025, 64, 256, 1073741823⟩ w (-1) (Lib.hid (by decide))
  dsimp only [plV] at h
  exact h
theorem more_formed3 (w : World) : Calls Try.prog 11 #[.agg #[.int .i64 1048576, .int .i64 16, .int .i64 1024, .int .i64 65, .int .i64 256, .int .i64 1073741823]] w (Ret (.bool false) w) := by
  have h := formed_any ⟨1048576, 16, 1024, 65, 256, 1073741823⟩ w false (hid_no (by decide))
  dsimp only [plV] at h
  exact h
theorem more_size3 (w : World) : Calls Try.prog 12 #[.agg #[.int .i64 1048576, .int .i64 16, .int .i64 1024, .int .i64 65, .int .i64 256, .int .i64 1073741823]] w (Ret (.int .i64 0) w) := by
  have h := size_is ⟨1048576, 16, 1024, 65, 256, 1073741823⟩ w 0 (Lib.hid (by decide))
  dsimp only [plV] at h
  exact h
theorem more_head3 (w : World) : Calls Try.prog 20 #[.agg #[.int .i64 1048576, .int .i64 16, .int .i64 1024, .int .i64 65, .int .i64 256, .int .i64 1073741823]] w (Ret (.int .i64 (-1)) w) := by
  have h := head_is ⟨1048576, 16, 1024, 65, 256, 1073741823⟩ w (-1) (Lib.hid (by decide))
  dsimp only [plV] at h
  exact h
theorem more_formed4 (w : World) : Calls Try.prog 11 #[.agg #[.int .i64 1048576, .int .i64 16, .int .i64 1024, .int .i64 64, .int .i64 257, .int .i64 1073741823]] w (Ret (.bool false) w) := by
  have h := formed_any ⟨1048576, 16, 1024, 64, 257, 1073741823⟩ w false (hid_no (by decide))
  dsimp only [plV] at h
  exact h
theorem more_size4 (w : World) : Calls Try.prog 12 #[.agg #[.int .i64 1048576, .int .i64 16, .int .i64 1024, .int .i64 64, .int .i64 257, .int .i64 1073741823]] w (Ret (.int .i64 0) w) := by
  have h := size_is ⟨1048576, 16, 1024, 64, 257, 1073741823⟩ w 0 (Lib.hid (by decide))
  dsimp only [plV] at h
  exact h
theorem more_head4 (w : World) : Calls Try.prog 20 #[.agg #[.int .i64 1048576, .int .i64 16, .int .i64 1024, .int .i64 64, .int .i64 257, .int .i64 1073741823]] w (Ret (.int .i64 (-1)) w) := by
  have h := head_is ⟨1048576, 16, 1024, 64, 257, 1073741823⟩ w (-1) (Lib.hid (by decide))
  dsimp only [plV] at h
  exact h
theorem more_formed5 (w : World) : Calls Try.prog 11 #[.agg #[.int .i64 1048576, .int .i64 16, .int .i64 1024, .int .i64 64, .int .i64 256, .int .i64 1073741824]] w (Ret (.bool false) w) := by
  have h := formed_any ⟨1048576, 16, 1024, 64, 256, 1073741824⟩ w false (hid_no (by decide))
  dsimp only [plV] at h
  exact h
theorem more_size5 (w : World) : Calls Try.prog 12 #[.agg #[.int .i64 1048576, .int .i64 16, .int .i64 1024, .int .i64 64, .int .i64 256, .int .i64 1073741824]] w (Ret (.int .i64 0) w) := by
  have h := size_is ⟨1048576, 16, 1024, 64, 256, 1073741824⟩ w 0 (Lib.hid (by decide))
  dsimp only [plV] at h
  exact h
theorem more_head5 (w : World) : Calls Try.prog 20 #[.agg #[.int .i64 1048576, .int .i64 16, .int .i64 1024, .int .i64 64, .int .i64 256, .int .i64 1073741824]] w (Ret (.int .i64 (-1)) w) := by
  have h := head_is ⟨1048576, 16, 1024, 64, 256, 1073741824⟩ w (-1) (Lib.hid (by decide))
  dsimp only [plV] at h
  exact h

set_option maxRecDepth 8000 in
set_option maxHeartbeats 2000000 in
theorem planGreat_any (a : Nat) (w : World) (ha : a ≤ 255) : Calls Try.prog 5 #[.int .u8 (a : Int)] w (Ret (.bool true) w) := by
  have e1 := gfd_last
  have e2 := gfd_none
  go_enter Try.func5, Try.ntmps5
  go_wp2_with (go_at_call 8; refine (awake_any _).mono ?_; rintro e w' hr'; obtain ⟨rfl, s, rfl⟩ := hr'.over; clear hr')
  have HX0 := Lib.hid (over_below w s)
  refine wp_region_over (by kernel_rfl) (by kernel_rfl) ?_
  repeat (go_big_quiet_step (first
    | (go_at_call 11; exact over_call (great_formed _))
    | (go_at_call 12; exact over_call (great_size _))
    | (go_at_call 19; exact over_call (great_field _ _ _))))
  refine wpQuiet_nil ?_
  intro _ hw'
  obtain ⟨s1, hw''⟩ := hw'
  subst hw''
  have HX1 := Lib.hid (ext_over s1 (ext_alloc (.cells #[.int .i64 1048576, .int .i64 16, .int .i64 1024, .int .i64 64, .int .i64 256, .int .i64 1073741823] 23) HX0.out))
  rcases (show (a : Int) % 6 = 0 ∨ (a : Int) % 6 = 1 ∨ (a : Int) % 6 = 2 ∨ (a : Int) % 6 = 3 ∨ (a : Int) % 6 = 4 ∨ (a : Int) % 6 = 5 by omega) with h6 | h6 | h6 | h6 | h6 | h6
  · go_wp2_with (first
      | (go_at_call 11; refine (more_formed0 _).mono ?_; rintro e w' hr; obtain ⟨rfl, s2, rfl⟩ := hr.over; clear hr)
      | (go_at_call 12; refine (more_size0 _).mono ?_; rintro e w' hr; obtain ⟨rfl, s3, rfl⟩ := hr.over; clear hr)
      | (go_at_call 20; refine (more_head0 _).mono ?_; rintro e w' hr; obtain ⟨rfl, s4, rfl⟩ := hr.over; clear hr))
    go_ret
    refine Ret.mk (ext_trans HX1.out ?_)
    repeat (first | exact ext_refl _ | apply ext_over | apply ext_alloc | (refine ext_set _ ?_ ?_; exact Nat.le_refl _))
  · go_wp2_with (first
      | (go_at_call 11; refine (more_formed1 _).mono ?_; rintro e w' hr; obtain ⟨rfl, s2, rfl⟩ := hr.over; clear hr)
      | (go_at_call 12; refine (more_size1 _).mono ?_; rintro e w' hr; obtain ⟨rfl, s3, rfl⟩ := hr.over; clear hr)
      | (go_at_call 20; refine (more_head1 _).mono ?_; rintro e w' hr; obtain ⟨rfl, s4, rfl⟩ := hr.over; clear hr))
    go_ret
    refine Ret.mk (ext_trans HX1.out ?_)
    repeat (first | exact ext_refl _ | apply ext_over | apply ext_alloc | (refine ext_set _ ?_ ?_; exact Nat.le_refl _))
  · go_wp2_with (first
      | (go_at_call 11; refine (more_formed2 _).mono ?_; rintro e w' hr; obtain ⟨rfl, s2, rfl⟩ := hr.over; clear hr)
      | (go_at_call 12; refine (more_size2 _).mono ?_; rintro e w' hr; obtain ⟨rfl, s3, rfl⟩ := hr.over; clear hr)
      | (go_at_call 20; refine (more_head2 _).mono ?_; rintro e w' hr; obtain ⟨rfl, s4, rfl⟩ := hr.over; clear hr))
    go_ret
    refine Ret.mk (ext_trans HX1.out ?_)
    repeat (first | exact ext_refl _ | apply ext_over | apply ext_alloc | (refine ext_set _ ?_ ?_; exact Nat.le_refl _))
  · go_wp2_with (first
      | (go_at_call 11; refine (more_formed3 _).mono ?_; rintro e w' hr; obtain ⟨rfl, s2, rfl⟩ := hr.over; clear hr)
      | (go_at_call 12; refine (more_size3 _).mono ?_; rintro e w' hr; obtain ⟨rfl, s3, rfl⟩ := hr.over; clear hr)
      | (go_at_call 20; refine (more_head3 _).mono ?_; rintro e w' hr; obtain ⟨rfl, s4, rfl⟩ := hr.over; clear hr))
    go_ret
    refine Ret.mk (ext_trans HX1.out ?_)
    repeat (first | exact ext_refl _ | apply ext_over | apply ext_alloc | (refine ext_set _ ?_ ?_; exact Nat.le_refl _))
  · go_wp2_with (first
      | (go_at_call 11; refine (more_formed4 _).mono ?_; rintro e w' hr; obtain ⟨rfl, s2, rfl⟩ := hr.over; clear hr)
      | (go_at_call 12; refine (more_size4 _).mono ?_; rintro e w' hr; obtain ⟨rfl, s3, rfl⟩ := hr.over; clear hr)
      | (go_at_call 20; refine (more_head4 _).mono ?_; rintro e w' hr; obtain ⟨rfl, s4, rfl⟩ := hr.over; clear hr))
    go_ret
    refine Ret.mk (ext_trans HX1.out ?_)
    repeat (first | exact ext_refl _ | apply ext_over | apply ext_alloc | (refine ext_set _ ?_ ?_; exact Nat.le_refl _))
  · go_wp2_with (first
      | (go_at_call 11; refine (more_formed5 _).mono ?_; rintro e w' hr; obtain ⟨rfl, s2, rfl⟩ := hr.over; clear hr)
      | (go_at_call 12; refine (more_size5 _).mono ?_; rintro e w' hr; obtain ⟨rfl, s3, rfl⟩ := hr.over; clear hr)
      | (go_at_call 20; refine (more_head5 _).mono ?_; rintro e w' hr; obtain ⟨rfl, s4, rfl⟩ := hr.over; clear hr))
    go_ret
    refine Ret.mk (ext_trans HX1.out ?_)
    repeat (first | exact ext_refl _ | apply ext_over | apply ext_alloc | (refine ext_set _ ?_ ?_; exact Nat.le_refl _))
end Go.Proofs.Ytdbbbefkahmneaa
