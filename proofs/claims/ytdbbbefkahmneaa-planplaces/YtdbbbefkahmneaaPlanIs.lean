/-
  What the calls of a plan come to, by an equation. Conditions: those of each theorem.
-/
import Derived.Test.YtdbbbefkahmneaaPlanAt
namespace Go.Proofs.Ytdbbbefkahmneaa
open Go Go.RowKit

theorem head_is (p : Pl) (w : World) (r : Int) (h : Hid (p.headF  = r)) : Calls Try.prog 20 #[plV p] w (Ret (.int .i64 r) w) := by
  rw [← h.out]
  exact head_any p  w
theorem size_is (p : Pl) (w : World) (r : Int) (h : Hid (p.sizeF  = r)) : Calls Try.prog 12 #[plV p] w (Ret (.int .i64 r) w) := by
  rw [← h.out]
  exact size_any p  w
theorem cellsF_is (p : Pl) (w : World) (r : Int) (h : Hid (p.cellsF  = r)) : Calls Try.prog 13 #[plV p] w (Ret (.int .i64 r) w) := by
  rw [← h.out]
  exact cellsF_any p  w
theorem kind_is (p : Pl) (x : Int) (w : World) (r : Int) (h : Hid (p.kindF x = r)) : Calls Try.prog 24 #[plV p, .int .i64 x] w (Ret (.int .i64 r) w) := by
  rw [← h.out]
  exact kind_any p x w
theorem cell_is (p : Pl) (x i : Int) (w : World) (r : Int) (h : Hid (p.cellF x i = r)) : Calls Try.prog 30 #[plV p, .int .i64 x, .int .i64 i] w (Ret (.int .i64 r) w) := by
  rw [← h.out]
  exact cell_any p x i w
theorem hazard_is (p : Pl) (x i : Int) (w : World) (r : Int) (h : Hid (p.hazF x i = r)) : Calls Try.prog 22 #[plV p, .int .i64 x, .int .i64 i] w (Ret (.int .i64 r) w) := by
  rw [← h.out]
  exact hazard_any p x i w
theorem cnt_is (p : Pl) (x : Int) (w : World) (r : Int) (h : Hid (p.cntF x = r)) : Calls Try.prog 23 #[plV p, .int .i64 x] w (Ret (.int .i64 r) w) := by
  rw [← h.out]
  exact cnt_any p x w
theorem retired_is (p : Pl) (x i : Int) (w : World) (r : Int) (h : Hid (p.retF x i = r)) : Calls Try.prog 26 #[plV p, .int .i64 x, .int .i64 i] w (Ret (.int .i64 r) w) := by
  rw [← h.out]
  exact retired_any p x i w
theorem state_is (p : Pl) (x : Int) (w : World) (r : Int) (h : Hid (p.stF x = r)) : Calls Try.prog 21 #[plV p, .int .i64 x] w (Ret (.int .i64 r) w) := by
  rw [← h.out]
  exact state_any p x w
theorem next_is (p : Pl) (x : Int) (w : World) (r : Int) (h : Hid (p.nxF x = r)) : Calls Try.prog 25 #[plV p, .int .i64 x] w (Ret (.int .i64 r) w) := by
  rw [← h.out]
  exact next_any p x w
theorem field_is (p : Pl) (x i : Int) (w : World) (r : Int) (h : Hid (p.fdF x i = r)) : Calls Try.prog 19 #[plV p, .int .i64 x, .int .i64 i] w (Ret (.int .i64 r) w) := by
  rw [← h.out]
  exact field_any p x i w

set_option maxHeartbeats 1000000 in
theorem rformed_any (p : Pl) (w : World) (r : Bool) (hr : Hid (r = true ↔ p.ok)) : Calls Try.prog 10 #[plV p] w (Ret (.bool r) w) := by
  go_enter Try.func10, Try.ntmps10
  go_wp2
  all_goals go_ret
  all_goals refine Ret.bool ?_ (by repeat (first | exact ext_refl _ | apply ext_over | apply ext_alloc))
  all_goals (have h := hr.out; unfold Pl.ok at h; cases r <;> simp only [Bool.false_eq_true, false_iff, true_iff] at h ⊢ <;> first | omega | (simp only [decide_eq_true_eq]; omega) | (simp only [decide_eq_false_iff_not]; omega))

/-- It is looked at. -/
def Pl.few (p : Pl) : Prop := p.ok → p.n ≤ 40 ∧ p.r ≤ 40 ∧ p.d ≤ 6 ∧ p.b ≤ 10
set_option maxHeartbeats 1000000 in
theorem few_any (p : Pl) (w : World) (r : Bool) (hr : Hid (r = true ↔ p.few)) : Calls Try.prog 9 #[plV p] w (Ret (.bool r) w) := by
  by_cases hk : p.ok
  · have F := Lib.hid hk
    have HR : Hid (r = true ↔ p.n ≤ 40 ∧ p.r ≤ 40 ∧ p.d ≤ 6 ∧ p.b ≤ 10) := Lib.hid (hr.out.trans ⟨fun h => h hk, fun h _ => h⟩)
    clear hk hr
    go_enter Try.func9, Try.ntmps9
    go_wp2_with (go_at_call 10; refine (rformed_any p _ true (hid_yes F.out)).mono ?_; rintro e w' hr; obtain ⟨rfl, s, rfl⟩ := hr.over; clear hr)
    all_goals go_ret
    all_goals refine Ret.bool ?_ (by repeat (first | exact ext_refl _ | apply ext_over | apply ext_alloc))
    all_goals (have h := HR.out; cases r <;> simp only [Bool.false_eq_true, false_iff, true_iff] at h ⊢ <;> first | omega | (simp only [decide_eq_true_eq]; omega) | (simp only [decide_eq_false_iff_not]; omega))
  · have F := Lib.hid hk
    have HR : Hid (true = r) := Lib.hid (hr.out.2 fun h => absurd h hk).symm
    clear hk hr
    go_enter Try.func9, Try.ntmps9
    go_wp2_with (go_at_call 10; refine (rformed_any p _ false (hid_no F.out)).mono ?_; rintro e w' hr; obtain ⟨rfl, s, rfl⟩ := hr.over; clear hr)
    go_ret
    exact Ret.bool HR.out (by repeat (first | exact ext_refl _ | apply ext_over | apply ext_alloc))

set_option maxHeartbeats 1000000 in
theorem awake_any (w : World) : Calls Try.prog 8 #[] w (Ret (.bool true) w) := by
  have F : Hid (Pl.ok ⟨2, 1, 4, 0, 1, 1⟩) := Lib.hid (by decide)
  have G : Hid (Pl.stF ⟨2, 1, 4, 0, 1, 1⟩ 0 = 9) := Lib.hid (by decide)
  have H : Hid (Pl.sizeF ⟨2, 1, 4, 0, 1, 1⟩ = 19) := Lib.hid (by decide)
  go_enter Try.func8, Try.ntmps8
  go_wp2_with (first
    | (go_at_call 11; refine (formed_any ⟨2, 1, 4, 0, 1, 1⟩ _ true (hid_yes F.out)).mono ?_; rintro e w' hr; obtain ⟨rfl, s, rfl⟩ := hr.over; clear hr)
    | (go_at_call 21; refine (state_is ⟨2, 1, 4, 0, 1, 1⟩ 0 _ 9 G).mono ?_; rintro e w' hr; obtain ⟨rfl, s1, rfl⟩ := hr.over; clear hr)
    | (go_at_call 12; refine (size_is ⟨2, 1, 4, 0, 1, 1⟩ _ 19 H).mono ?_; rintro e w' hr; obtain ⟨rfl, s2, rfl⟩ := hr.over; clear hr))
  go_ret
  exact Ret.mk (by repeat (first | exact ext_refl _ | apply ext_over | apply ext_alloc))
end Go.Proofs.Ytdbbbefkahmneaa
