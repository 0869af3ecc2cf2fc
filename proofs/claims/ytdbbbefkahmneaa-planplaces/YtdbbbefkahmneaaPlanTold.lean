/-
  What told comes to. Conditions: those of each theorem.
-/
import Derived.Test.YtdbbbefkahmneaaPlanIs
namespace Go.Proofs.Ytdbbbefkahmneaa
open Go Go.RowKit
/-- The place of a word. -/
def Pl.toldF (p : Pl) (x : T3) : Int :=
  if x.a = 0 then p.headF else if x.a = 1 then p.kindF x.b else if x.a = 2 then p.cellF x.b x.c else if x.a = 3 then p.hazF x.b x.c else if x.a = 4 then p.cntF x.b else if x.a = 5 then p.retF x.b x.c
  else if x.a = 6 then p.stF x.b else if x.a = 7 then p.nxF x.b else p.fdF x.b x.c
abbrev wdV (x : T3) : Value := .agg #[.int .i64 x.a, .int .i64 x.b, .int .i64 x.c]
theorem toldS {p : Pl} {x : T3} : p.toldF x = (if (x.a == 0) = true then p.headF else if (x.a == 1) = true then p.kindF x.b else if (x.a == 2) = true then p.cellF x.b x.c else if (x.a == 3) = true then p.hazF x.b x.c else if (x.a == 4) = true then p.cntF x.b else if (x.a == 5) = true then p.retF x.b x.c
  else if (x.a == 6) = true then p.stF x.b else if (x.a == 7) = true then p.nxF x.b else p.fdF x.b x.c) := by
  unfold Pl.toldF
  simp only [beq_iff_eq]
set_option maxRecDepth 8000 in
set_option maxHeartbeats 2000000 in
theorem told_any (p : Pl) (x : T3) (w : World) : Calls Try.prog 14 #[plV p, wdV x] w (Ret (.int .i64 (p.toldF x)) w) := by
  obtain ⟨y, hy⟩ : ∃ y, y = p.toldF x := ⟨_, rfl⟩
  rw [← hy]
  have HY := Lib.hid hy
  clear hy
  go_enter Try.func14, Try.ntmps14
  go_wp2_with (first
    | (go_at_call 20; refine (head_any p _).mono ?_; rintro e w' hr'; obtain ⟨rfl, s, rfl⟩ := hr'.over; clear hr')
    | (go_at_call 24; refine (kind_any p _ _).mono ?_; rintro e w' hr'; obtain ⟨rfl, s, rfl⟩ := hr'.over; clear hr')
    | (go_at_call 30; refine (cell_any p _ _ _).mono ?_; rintro e w' hr'; obtain ⟨rfl, s, rfl⟩ := hr'.over; clear hr')
    | (go_at_call 22; refine (hazard_any p _ _ _).mono ?_; rintro e w' hr'; obtain ⟨rfl, s, rfl⟩ := hr'.over; clear hr')
    | (go_at_call 23; refine (cnt_any p _ _).mono ?_; rintro e w' hr'; obtain ⟨rfl, s, rfl⟩ := hr'.over; clear hr')
    | (go_at_call 26; refine (retired_any p _ _ _).mono ?_; rintro e w' hr'; obtain ⟨rfl, s, rfl⟩ := hr'.over; clear hr')
    | (go_at_call 21; refine (state_any p _ _).mono ?_; rintro e w' hr'; obtain ⟨rfl, s, rfl⟩ := hr'.over; clear hr')
    | (go_at_call 25; refine (next_any p _ _).mono ?_; rintro e w' hr'; obtain ⟨rfl, s, rfl⟩ := hr'.over; clear hr')
    | (go_at_call 19; refine (field_any p _ _ _).mono ?_; rintro e w' hr'; obtain ⟨rfl, s, rfl⟩ := hr'.over; clear hr'))
  all_goals go_ret
  all_goals refine Ret.int ?_ (by repeat (first | exact ext_refl _ | apply ext_over | apply ext_alloc))
  all_goals rw [HY.out]
  all_goals rw [toldS]
  all_goals (clear HY; simp only [*, if_true, if_false, Bool.false_eq_true])
end Go.Proofs.Ytdbbbefkahmneaa
