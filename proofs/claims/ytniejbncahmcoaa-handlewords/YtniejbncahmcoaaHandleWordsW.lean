/-
  HandleWords: the call's ways, walked. Conditions: those of each theorem.
-/
import Derived.Test.YtniejbncahmcoaaHandleMn
namespace Go.Proofs.Ytniejbncahmcoaa
open Go Go.RowKit

set_option maxRecDepth 8000 in
set_option maxHeartbeats 1000000 in
theorem handleWords_any (s : Hn) (x : BitVec 64) (w : World) : Calls Try.prog 3 #[hnV s, .int .u64 (U x)] w (Ret (.bool true) w) := by
  have hg := gdHn
  have e3 : ∀ y, (binOp .eql 23 (hnV (ofH x)) (hnV (ofH x))).run Try.prog y = .ok (.bool true) y := fun y => by rw [eqHn, decide_eq_true rfl]
  obtain ⟨f, hf⟩ : ∃ f, f = ofH x := ⟨_, rfl⟩
  obtain ⟨d, hd⟩ : ∃ d, d = decide (isH x) := ⟨_, rfl⟩
  obtain ⟨c, hc⟩ : ∃ c, c = decide s.ok := ⟨_, rfl⟩
  have HC : Hid (c = true ↔ s.ok) := Lib.hid (by rw [hc, decide_eq_true_eq])
  have f1 : Hid (∀ y, Calls Try.prog 8 #[.int .u64 (U x)] y (Ret (.tuple #[hnV f, .bool d]) y)) := Lib.hid fun y => (by rw [hf, hd]; exact hof_any x y)
  have f2 : Hid (∀ y, Calls Try.prog 9 #[.int .u64 (U x)] y (Ret (.tuple #[hnV f, .bool d]) y)) := Lib.hid fun y => (by rw [hf, hd]; exact rhof_any x y)
  rw [← hf] at e3
  clear hf hd hc
  go_enter Try.func3, Try.ntmps3
  go_wp2_with (first
    | (go_at_call 7; refine (hawake_any _).mono ?_; rintro e w' hr; obtain ⟨rfl, s0, rfl⟩ := hr.over; clear hr)
    | (go_at_call 8; refine (f1.out _).mono ?_; rintro e w' hr; obtain ⟨rfl, s1, rfl⟩ := hr.over; clear hr)
    | (go_at_call 9; refine (f2.out _).mono ?_; rintro e w' hr; obtain ⟨rfl, s2, rfl⟩ := hr.over; clear hr))
  have X0 := Lib.hid (ext_over (s0.comp s1) (ext_alloc (.cells #[.int .i64 s.i, .int .i64 s.g, .int .i64 s.t] 23) (ext_refl w)))
  have X1 := Lib.hid (ext_over s2 (ext_alloc (.cells #[.int .i64 f.i, .int .i64 f.g, .int .i64 f.t] 23) X0.out))
  have X2 := Lib.hid (ext_alloc (.cells #[.int .i64 f.i, .int .i64 f.g, .int .i64 f.t] 23) X1.out)
  have B0 := Lib.hid (((((Made.mk #[.int .i64 s.i, .int .i64 s.g, .int .i64 s.t] 23 (ext_refl w)).over (s0.comp s1)).alloc (.cells #[.int .i64 f.i, .int .i64 f.g, .int .i64 f.t] 23)).over s2).alloc (.cells #[.int .i64 f.i, .int .i64 f.g, .int .i64 f.t] 23))
  have B1 := Lib.hid (((Made.mk #[.int .i64 f.i, .int .i64 f.g, .int .i64 f.t] 23 X0.out).over s2).alloc (.cells #[.int .i64 f.i, .int .i64 f.g, .int .i64 f.t] 23))
  have B2 := Lib.hid (Made.mk #[.int .i64 f.i, .int .i64 f.g, .int .i64 f.t] 23 X1.out)
  generalize ((over ((over (w.alloc (.cells #[.int .i64 s.i, .int .i64 s.g, .int .i64 s.t] 23)) (s0.comp s1)).alloc (.cells #[.int .i64 f.i, .int .i64 f.g, .int .i64 f.t] 23)) s2).alloc (.cells #[.int .i64 f.i, .int .i64 f.g, .int .i64 f.t] 23)) = Y at X2 B0 B1 B2 ⊢
  clear X0 X1
  generalize (over ((over (w.alloc (.cells #[.int .i64 s.i, .int .i64 s.g, .int .i64 s.t] 23)) (s0.comp s1)).alloc (.cells #[.int .i64 f.i, .int .i64 f.g, .int .i64 f.t] 23)) s2).heap.size = bb at B2 ⊢
  generalize (over (w.alloc (.cells #[.int .i64 s.i, .int .i64 s.g, .int .i64 s.t] 23)) (s0.comp s1)).heap.size = ba at B1 ⊢
  generalize w.heap.size = bs at B0 ⊢
  have bs0 := cell_at (o := 0) B0.out.1 rfl
  have bs1 := cell_at (o := 1) B0.out.1 rfl
  have bs2 := cell_at (o := 2) B0.out.1 rfl
  have lbs := hp_lt B0.out.1
  have ba0 := cell_at (o := 0) B1.out.1 rfl
  have ba1 := cell_at (o := 1) B1.out.1 rfl
  have ba2 := cell_at (o := 2) B1.out.1 rfl
  have lba := hp_lt B1.out.1
  have bb0 := cell_at (o := 0) B2.out.1 rfl
  have bb1 := cell_at (o := 1) B2.out.1 rfl
  have bb2 := cell_at (o := 2) B2.out.1 rfl
  have lbb := hp_lt B2.out.1
  simp only [List.getElem_toArray, List.getElem_cons_zero, List.getElem_cons_succ] at bs0 bs1 bs2 ba0 ba1 ba2 bb0 bb1 bb2
  refine wp_region_over (by kernel_rfl) (by kernel_rfl) ?_
  repeat (go_big_quiet_step (first
    | (go_at_call 10; exact over_call (hformed_is s _ c HC))
    | (go_at_call 11; exact over_call (rhformed_any s _ c HC))
    | (go_at_call 12; exact over_call (hword_any s _))
    | (go_at_call 13; exact over_call (rhword_any s _))))
  refine wpQuiet_nil ?_
  intro _ hw'
  obtain ⟨s5, hw''⟩ := hw'
  subst hw''
  go_wp2
  go_ret
  exact Ret.mk (ext_over _ X2.out)

end Go.Proofs.Ytniejbncahmcoaa
