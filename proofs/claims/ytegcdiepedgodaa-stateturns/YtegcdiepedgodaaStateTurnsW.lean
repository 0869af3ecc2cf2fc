/-
  StateTurns: the call's ways, walked. Conditions: those of each theorem.
-/
import Derived.Test.YtegcdiepedgodaaStateRef
namespace Go.Proofs.Ytegcdiepedgodaa
open Go Go.RowKit

set_option maxRecDepth 8000 in
set_option maxHeartbeats 1000000 in
theorem stateTurns_any (s : St) (kind most : Int) (w : World) : Calls Try.prog 4 #[stV s, .int .i64 kind, .int .i64 most] w (Ret (.bool true) w) := by
  by_cases h : 1099511627776 < s.g
  · have h1 : decide (1099511627776 < s.g) = true := decide_eq_true h
    go_enter Try.func4, Try.ntmps4
    go_wp2_with (go_at_call 7; refine (awake_any _).mono ?_; rintro e w' hr; obtain ⟨rfl, s0, rfl⟩ := hr.over; clear hr)
    go_ret
    exact Ret.mk (by repeat (first | exact ext_refl _ | apply ext_over | apply ext_alloc | (refine ext_set _ ?_ ?_; exact Nat.le_refl _)))
  · have h1 : decide (1099511627776 < s.g) = false := decide_eq_false h
    clear h
    have hg := gdSt
    have e1 : ∀ y, (binOp .eql 23 (stV ⟨s.g, 1, kind⟩) (stV ⟨s.g, 1, kind⟩)).run Try.prog y = .ok (.bool true) y := fun y => by rw [eqSt, decide_eq_true rfl]
    have e2 : ∀ y, (binOp .eql 23 (stV ⟨s.g, 2, s.k⟩) (stV ⟨s.g, 2, s.k⟩)).run Try.prog y = .ok (.bool true) y := fun y => by rw [eqSt, decide_eq_true rfl]
    have e3 : ∀ y, (binOp .eql 23 (stV (s.freed most)) (stV (s.freed most))).run Try.prog y = .ok (.bool true) y := fun y => by rw [eqSt, decide_eq_true rfl]
    obtain ⟨f, hf⟩ : ∃ f, f = s.freed most := ⟨_, rfl⟩
    have f1 : Hid (∀ y, Calls Try.prog 16 #[stV s, .int .i64 most] y (Ret (stV f) y)) := Lib.hid fun y => (by rw [hf]; exact freed_any s most y)
    have f2 : Hid (∀ y, Calls Try.prog 17 #[stV s, .int .i64 most] y (Ret (stV f) y)) := Lib.hid fun y => (by rw [hf]; exact rfreed_any s most y)
    rw [← hf] at e3
    clear hf
    go_enter Try.func4, Try.ntmps4
    go_wp2_with (go_at_call 7; refine (awake_any _).mono ?_; rintro e w' hr; obtain ⟨rfl, s0, rfl⟩ := hr.over; clear hr)
    refine wp_region_over2 (by kernel_rfl) (by kernel_rfl) ?_
    repeat (go_big_quiet_step (first
      | (go_at_call 14; exact over_call (live_any s kind _))
      | (go_at_call 15; exact over_call (retire_any s _))
      | (go_at_call 16; exact over_call (f1.out _))
      | (go_at_call 17; exact over_call (f2.out _))))
    refine wpQuiet_nil ?_
    intro _ hw'
    obtain ⟨s5, hw''⟩ := hw'
    subst hw''
    go_wp2
    go_ret
    exact Ret.mk (by repeat (first | exact ext_refl _ | apply ext_over | apply ext_alloc | (refine ext_set _ ?_ ?_; exact Nat.le_refl _)))

end Go.Proofs.Ytegcdiepedgodaa
