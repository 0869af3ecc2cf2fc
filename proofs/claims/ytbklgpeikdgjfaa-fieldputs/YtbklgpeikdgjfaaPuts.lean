/-
  FieldPuts: the call's two ways, walked. Conditions: those of each theorem.
-/
import Derived.Test.YtbklgpeikdgjfaaFns
namespace Go.Proofs.Ytbklgpeikdgjfaa
open Go Go.RowKit

set_option maxHeartbeats 400000 in
theorem fieldPuts_yes (a b : Int) (x v : BitVec 64) (w : World) (h : Fm a b) :
    Calls Try.prog 7 #[.agg #[.int .i64 a, .int .i64 b], .int .u64 (U x), .int .u64 (U v)] w (Ret (.bool true) w) := by
  have g1 := fun u => put_put a b x v u h
  have g2 := put_get a b x h
  have g3 := get_put a b x v h
  go_enter Try.func7, Try.ntmps7
  go_wp2_with (first
    | (go_at_call 10; refine (awake_any _).mono ?_; rintro e w' hr; obtain ⟨rfl, s, rfl⟩ := hr.over; clear hr)
    | (go_at_call 11; refine (formed_yes _ _ _ h).mono ?_; rintro e w' hr; obtain ⟨rfl, s, rfl⟩ := hr.over; clear hr)
    | (go_at_call 17; refine (put_yes _ _ _ _ _ h).mono ?_; rintro e w' hr; obtain ⟨rfl, s, rfl⟩ := hr.over; clear hr))
  first | refine wp_region_over2 (by kernel_rfl) (by kernel_rfl) ?_ | refine wp_region_over (by kernel_rfl) (by kernel_rfl) ?_
  repeat (go_big_quiet_step ((first
    | (go_at_call 15; exact over_call (get_yes _ _ _ _ h))
    | (go_at_call 13; exact over_call (most_yes _ _ _ h))
    | (go_at_call 17; exact over_call (put_at _ _ _ _ _ _ _ h rfl (by first | exact U_0.symm | rfl))))))
  refine wpQuiet_nil ?_
  intro _ hw'
  obtain ⟨s', hw''⟩ := hw'
  subst hw''
  go_wp2
  go_ret
  exact Ret.mk (by repeat (first | exact ext_refl _ | apply ext_over | apply ext_alloc))

set_option maxHeartbeats 400000 in
theorem fieldPuts_no (a b : Int) (x v : BitVec 64) (w : World) (h : ¬ Fm a b) :
    Calls Try.prog 7 #[.agg #[.int .i64 a, .int .i64 b], .int .u64 (U x), .int .u64 (U v)] w (Ret (.bool true) w) := by
  go_enter Try.func7, Try.ntmps7
  go_wp2_with (first
    | (go_at_call 10; refine (awake_any _).mono ?_; rintro e w' hr; obtain ⟨rfl, s, rfl⟩ := hr.over; clear hr)
    | (go_at_call 11; refine (formed_no _ _ _ h).mono ?_; rintro e w' hr; obtain ⟨rfl, s, rfl⟩ := hr.over; clear hr))
  go_ret
  exact Ret.mk (by repeat (first | exact ext_refl _ | apply ext_over | apply ext_alloc))

end Go.Proofs.Ytbklgpeikdgjfaa
