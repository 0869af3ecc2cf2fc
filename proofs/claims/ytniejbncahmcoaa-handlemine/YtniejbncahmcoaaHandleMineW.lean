/-
  HandleMine: the call's ways, walked. Conditions: those of each theorem.
-/
import Derived.Test.YtniejbncahmcoaaHandleMn
namespace Go.Proofs.Ytniejbncahmcoaa
open Go Go.RowKit

set_option maxRecDepth 8000 in
set_option maxHeartbeats 1000000 in
theorem handleMine_any (x : BitVec 64) (t n : Int) (w : World) : Calls Try.prog 4 #[.int .u64 (U x), .int .i64 t, .int .i64 n] w (Ret (.bool true) w) := by
  have hg := gdHn
  obtain ⟨f, hf⟩ : ∃ f, f = mineH x t n := ⟨_, rfl⟩
  obtain ⟨d, hd⟩ : ∃ d, d = decide (isMine x t n) := ⟨_, rfl⟩
  have e3 : ∀ y, (binOp .eql 23 (hnV f) (hnV f)).run Try.prog y = .ok (.bool true) y := fun y => by rw [eqHn, decide_eq_true rfl]
  have f1 : Hid (∀ y, Calls Try.prog 14 #[.int .u64 (U x), .int .i64 t, .int .i64 n] y (Ret (.tuple #[hnV f, .bool d]) y)) := Lib.hid fun y => (by rw [hf, hd]; exact mine_any x t n y)
  have f2 : Hid (∀ y, Calls Try.prog 15 #[.int .u64 (U x), .int .i64 t, .int .i64 n] y (Ret (.tuple #[hnV f, .bool d]) y)) := Lib.hid fun y => (by rw [hf, hd]; exact rmine_any x t n y)
  clear hf hd
  go_enter Try.func4, Try.ntmps4
  go_wp2_with (first
    | (go_at_call 7; refine (hawake_any _).mono ?_; rintro e w' hr; obtain ⟨rfl, s0, rfl⟩ := hr.over; clear hr)
    | (go_at_call 14; refine (f1.out _).mono ?_; rintro e w' hr; obtain ⟨rfl, s1, rfl⟩ := hr.over; clear hr)
    | (go_at_call 15; refine (f2.out _).mono ?_; rintro e w' hr; obtain ⟨rfl, s2, rfl⟩ := hr.over; clear hr))
  go_ret
  exact Ret.mk (by repeat (first | exact ext_refl _ | apply ext_over | apply ext_alloc | (refine ext_set _ ?_ ?_; exact Nat.le_refl _)))

end Go.Proofs.Ytniejbncahmcoaa
