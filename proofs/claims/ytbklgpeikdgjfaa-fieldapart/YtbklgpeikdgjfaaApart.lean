/-
  FieldApart: the call's ways, walked. Conditions: those of each theorem.
-/
import Derived.Test.YtbklgpeikdgjfaaLayout
namespace Go.Proofs.Ytbklgpeikdgjfaa
open Go Go.RowKit

/-- Two fields without a common bit. -/
def Two (a b c d : Int) : Prop := Fm a b ∧ Fm c d ∧ ¬ Meet a b c d

theorem lay_two (a b c d : Int) : Lay [(a, b), (c, d)] ↔ Two a b c d := by
  constructor
  · intro h
    exact ⟨(h 0 (by simp)).1, (h 1 (by simp)).1, (h 1 (by simp)).2 0 (by simp)⟩
  · rintro ⟨h1, h2, h3⟩ i hi
    rcases (show i = 0 ∨ i = 1 from by simp at hi; omega) with rfl | rfl
    · exact ⟨h1, fun j hj => absurd hj (Nat.not_lt_zero _)⟩
    · refine ⟨h2, fun j hj => ?_⟩
      obtain rfl : j = 0 := by omega
      exact h3

theorem put_swap (a b c d : Int) (x u v : BitVec 64) (h : Two a b c d) : putN a b (putN c d x v) u = putN c d (putN a b x u) v := by
  obtain ⟨h1, h2, h3⟩ := h
  apply bv_eq; intro i hi
  simp only [putN_bit _ _ _ _ i h1 hi, putN_bit _ _ _ _ i h2 hi]
  unfold Meet at h3
  by_cases p : a ≤ i ∧ (i : Int) < a + b
  · have q : ¬ (c ≤ i ∧ (i : Int) < c + d) := by omega
    rw [if_pos p, if_neg q, if_pos p]
  · rw [if_neg p, if_neg p]
theorem get_other (a b c d : Int) (x v : BitVec 64) (h : Two a b c d) : getN a b (putN c d x v) = getN a b x := by
  obtain ⟨h1, h2, h3⟩ := h
  apply bv_eq; intro i hi
  rw [getN_bit _ _ _ _ h1, getN_bit _ _ _ _ h1]
  unfold Meet at h3
  obtain ⟨p1, p2, p3, p4⟩ := h1
  by_cases p : (i : Int) < b
  · rw [putN_bit _ _ _ _ _ h2 (by omega), if_neg (by omega)]
  · simp [p]
theorem Two.symm {a b c d : Int} (h : Two a b c d) : Two c d a b := ⟨h.2.1, h.1, fun m => h.2.2 ⟨m.2, m.1⟩⟩

/-- The two fields that the law lays in memory. -/
theorem fs_two (w : World) (a b c d : Int) : Fs (w.alloc (.cells #[.int .i64 a, .int .i64 b, .int .i64 c, .int .i64 d] 23)) (.slice (some ⟨w.heap.size, 0, none⟩) 2 2) [(a, b), (c, d)] := by
  refine ⟨_, 2, rfl, by simp, fun _ => ⟨w.heap.size, 0, rfl, by simp, fun i hi => ?_⟩⟩
  rcases (show i = 0 ∨ i = 1 from by simp at hi; omega) with rfl | rfl
  · exact ⟨by simp [fA], by simp [fB]⟩
  · exact ⟨by simp [fA], by simp [fB]⟩

set_option maxHeartbeats 1000000 in
theorem fieldApart_yes (a b c d : Int) (x y z : BitVec 64) (w : World) (h : Two a b c d) :
    Calls Try.prog 8 #[.agg #[.int .i64 a, .int .i64 b], .agg #[.int .i64 c, .int .i64 d], .agg #[.int .u64 (U x), .int .u64 (U y), .int .u64 (U z)]] w (Ret (.bool true) w) := by
  have hf := h.1
  have hg := h.2.1
  have HR : Hid (Lay [(a, b), (c, d)]) := Lib.hid ((lay_two a b c d).2 h)
  have g1 := put_swap a b c d x y z h
  have g2 := get_other a b c d (putN a b x y) z h
  have g3 := get_put a b x y hf
  have g4 := get_put a b 0#64 y hf
  have g5 := get_put c d (putN a b x y) z hg
  have g6 := get_put c d 0#64 z hg
  go_enter Try.func8, Try.ntmps8
  go_wp2_with (first
    | (go_at_call 10; refine (awake_any _).mono ?_; rintro e w' hr; obtain ⟨rfl, s, rfl⟩ := hr.over; clear hr)
    | (go_at_call 22; refine (layout_any [(a, b), (c, d)] _ _ true (hid_yes HR.out) (by simp) (by exact fs_two _ a b c d)).mono ?_; rintro e w' hr; obtain ⟨rfl, s, rfl⟩ := hr.over; clear hr))
  generalize hX : over _ s = X
  have hb : Ext (((w.alloc (Obj.cells #[Value.int IntKind.i64 a, Value.int IntKind.i64 b] 23)).alloc (Obj.cells #[Value.int IntKind.i64 c, Value.int IntKind.i64 d] 23)).alloc (Obj.cells #[Value.int IntKind.u64 (U x), Value.int IntKind.u64 (U y), Value.int IntKind.u64 (U z)] 46)) X := by
    rw [← hX]
    repeat (first | exact ext_refl _ | apply ext_over | apply ext_alloc)
  clear hX
  have c0 : X.cell? ⟨w.heap.size, 0, none⟩ = some (.int .i64 a) := ext_cell hb (by go_simp)
  have c1 : X.cell? ⟨w.heap.size, 1, none⟩ = some (.int .i64 b) := ext_cell hb (by go_simp)
  have c2 : X.cell? ⟨w.heap.size + 1, 0, none⟩ = some (.int .i64 c) := ext_cell hb (by go_simp)
  have c3 : X.cell? ⟨w.heap.size + 1, 1, none⟩ = some (.int .i64 d) := ext_cell hb (by go_simp)
  have c4 : X.cell? ⟨w.heap.size + 1 + 1, 0, none⟩ = some (.int .u64 (U x)) := ext_cell hb (by go_simp)
  have c5 : X.cell? ⟨w.heap.size + 1 + 1, 1, none⟩ = some (.int .u64 (U y)) := ext_cell hb (by go_simp)
  have c6 : X.cell? ⟨w.heap.size + 1 + 1, 2, none⟩ = some (.int .u64 (U z)) := ext_cell hb (by go_simp)
  have l0 := cell_lt c0
  have l1 := cell_lt c2
  have l2 := cell_lt c4
  have HB : Hid (Below w.heap.size w X) := Lib.hid (ext_trans (by repeat (first | exact ext_refl _ | apply ext_over | apply ext_alloc)) hb)
  clear hb
  first | refine wp_region_over2 (by kernel_rfl) (by kernel_rfl) ?_ | refine wp_region_over (by kernel_rfl) (by kernel_rfl) ?_
  repeat (go_big_quiet_step ((first
    | (go_at_call_of 17 (Value.agg #[Value.int IntKind.i64 a, Value.int IntKind.i64 b]); exact over_call (put_at _ _ _ _ _ _ _ hf (by first | exact U_0.symm | rfl) rfl))
    | (go_at_call_of 17 (Value.agg #[Value.int IntKind.i64 c, Value.int IntKind.i64 d]); exact over_call (put_at _ _ _ _ _ _ _ hg (by first | exact U_0.symm | rfl) rfl))
    | (go_at_call_of 15 (Value.agg #[Value.int IntKind.i64 a, Value.int IntKind.i64 b]); exact over_call (get_yes _ _ _ _ hf))
    | (go_at_call_of 15 (Value.agg #[Value.int IntKind.i64 c, Value.int IntKind.i64 d]); exact over_call (get_yes _ _ _ _ hg)))))
  refine wpQuiet_nil ?_
  intro _ hw'
  obtain ⟨s1, hw''⟩ := hw'
  subst hw''
  go_wp2
  first | refine wp_region_over2 (by kernel_rfl) (by kernel_rfl) ?_ | refine wp_region_over (by kernel_rfl) (by kernel_rfl) ?_
  repeat (go_big_quiet_step ((first
    | (go_at_call_of 17 (Value.agg #[Value.int IntKind.i64 a, Value.int IntKind.i64 b]); exact over_call (put_at _ _ _ _ _ _ _ hf (by first | exact U_0.symm | rfl) rfl))
    | (go_at_call_of 17 (Value.agg #[Value.int IntKind.i64 c, Value.int IntKind.i64 d]); exact over_call (put_at _ _ _ _ _ _ _ hg (by first | exact U_0.symm | rfl) rfl))
    | (go_at_call_of 15 (Value.agg #[Value.int IntKind.i64 a, Value.int IntKind.i64 b]); exact over_call (get_yes _ _ _ _ hf))
    | (go_at_call_of 15 (Value.agg #[Value.int IntKind.i64 c, Value.int IntKind.i64 d]); exact over_call (get_yes _ _ _ _ hg)))))
  refine wpQuiet_nil ?_
  intro _ hw'
  obtain ⟨s2, hw''⟩ := hw'
  subst hw''
  go_wp2
  go_ret
  exact Ret.mk (by repeat (first | exact HB.out | exact ext_refl _ | apply ext_over | apply ext_alloc))

set_option maxHeartbeats 400000 in
theorem fieldApart_no (a b c d : Int) (x y z : BitVec 64) (w : World) (h : ¬ Two a b c d) :
    Calls Try.prog 8 #[.agg #[.int .i64 a, .int .i64 b], .agg #[.int .i64 c, .int .i64 d], .agg #[.int .u64 (U x), .int .u64 (U y), .int .u64 (U z)]] w (Ret (.bool true) w) := by
  have HR : Hid (¬ Lay [(a, b), (c, d)]) := Lib.hid (fun hn => h ((lay_two a b c d).1 hn))
  clear h
  go_enter Try.func8, Try.ntmps8
  go_wp2_with (first
    | (go_at_call 10; refine (awake_any _).mono ?_; rintro e w' hr; obtain ⟨rfl, s, rfl⟩ := hr.over; clear hr)
    | (go_at_call 22; refine (layout_any [(a, b), (c, d)] _ _ false (hid_no HR.out) (by simp) (by exact fs_two _ a b c d)).mono ?_; rintro e w' hr; obtain ⟨rfl, s, rfl⟩ := hr.over; clear hr))
  go_ret
  exact Ret.mk (by repeat (first | exact ext_refl _ | apply ext_over | apply ext_alloc))

end Go.Proofs.Ytbklgpeikdgjfaa
