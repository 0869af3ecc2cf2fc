/-
  FieldGets: the call's two ways, walked. Conditions: those of each theorem.
-/
import Derived.Test.YtbklgpeikdgjfaaRefs
namespace Go.Proofs.Ytbklgpeikdgjfaa
open Go Go.RowKit

set_option maxHeartbeats 400000 in
theorem fieldGets_yes (a b : Int) (x v : BitVec 64) (w : World) (h : Fm a b) :
    Calls Try.prog 3 #[.agg #[.int .i64 a, .int .i64 b], .int .u64 (U x), .int .u64 (U v)] w (Ret (.bool true) w) := by
  go_enter Try.func3, Try.ntmps3
  go_wp2
  refine wp_region_over (by kernel_rfl) (by kernel_rfl) ?_
  repeat (go_big_quiet_step ((first
    | (go_at_call 10; exact over_call (awake_any _))
    | (go_at_call 11; exact over_call (formed_yes _ _ _ h))
    | (go_at_call 12; exact over_call (rformed_yes _ _ _ h))
    | (go_at_call 13; exact over_call (most_yes _ _ _ h))
    | (go_at_call 14; exact over_call (rmost_yes _ _ _ h))
    | (go_at_call 15; exact over_call (get_yes _ _ _ _ h))
    | (go_at_call 16; exact over_call (rget_yes _ _ _ _ h))
    | (go_at_call 17; exact over_call (put_yes _ _ _ _ _ h))
    | (go_at_call 18; exact over_call (rput_yes _ _ _ _ _ h)))))
  refine wpQuiet_nil ?_
  intro _ hw'
  obtain ⟨s', hw''⟩ := hw'
  subst hw''
  go_wp2
  go_ret
  exact Ret.mk (by repeat (first | exact ext_refl _ | apply ext_over | apply ext_alloc))

set_option maxHeartbeats 400000 in
theorem fieldGets_no (a b : Int) (x v : BitVec 64) (w : World) (h : ¬ Fm a b) :
    Calls Try.prog 3 #[.agg #[.int .i64 a, .int .i64 b], .int .u64 (U x), .int .u64 (U v)] w (Ret (.bool true) w) := by
  go_enter Try.func3, Try.ntmps3
  go_wp2
  refine wp_region_over (by kernel_rfl) (by kernel_rfl) ?_
  repeat (go_big_quiet_step ((first
    | (go_at_call 10; exact over_call (awake_any _))
    | (go_at_call 11; exact over_call (formed_no _ _ _ h))
    | (go_at_call 12; exact over_call (rformed_no _ _ _ h))
    | (go_at_call 13; exact over_call (most_no _ _ _ h))
    | (go_at_call 14; exact over_call (rmost_no _ _ _ h))
    | (go_at_call 15; exact over_call (get_no _ _ _ _ h))
    | (go_at_call 16; exact over_call (rget_no _ _ _ _ h))
    | (go_at_call 17; exact over_call (put_no _ _ _ _ _ h))
    | (go_at_call 18; exact over_call (rput_no _ _ _ _ _ h)))))
  refine wpQuiet_nil ?_
  intro _ hw'
  obtain ⟨s', hw''⟩ := hw'
  subst hw''
  go_wp2
  go_ret
  exact Ret.mk (by repeat (first | exact ext_refl _ | apply ext_over | apply ext_alloc))

end Go.Proofs.Ytbklgpeikdgjfaa
