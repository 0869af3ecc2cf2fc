/-
  StateApart: the call's ways, walked. Conditions: those of each theorem.
-/
import Derived.Test.YtegcdiepedgodaaState3
namespace Go.Proofs.Ytegcdiepedgodaa
open Go Go.RowKit

set_option maxRecDepth 8000 in
set_option maxHeartbeats 2000000 in
theorem apart_no1 (s t : St) (kind : Int) (h1 : fm3 s.g s.m s.k = false) (w : World) : Calls Try.prog 6 #[stV s, stV t, .int .i64 kind] w (Ret (.bool true) w) := by
  go_enter Try.func6, Try.ntmps6
  go_wp2_with (first
    | (go_at_call 7; refine (awake_any _).mono ?_; rintro e w' hr; obtain ⟨rfl, s0, rfl⟩ := hr.over; clear hr)
    | (go_at_call 11; refine (rformed3 _ _ _ _).mono ?_; rintro e w' hr; obtain ⟨rfl, s1, rfl⟩ := hr.over; clear hr))
  go_ret
  exact Ret.mk (by repeat (first | exact ext_refl _ | apply ext_over | apply ext_alloc | (refine ext_set _ ?_ ?_; exact Nat.le_refl _)))

set_option maxRecDepth 8000 in
set_option maxHeartbeats 2000000 in
theorem apart_no2 (s t : St) (kind : Int) (h1 : fm3 s.g s.m s.k = true) (h2 : fm3 t.g t.m t.k = false) (w : World) : Calls Try.prog 6 #[stV s, stV t, .int .i64 kind] w (Ret (.bool true) w) := by
  go_enter Try.func6, Try.ntmps6
  go_wp2_with (first
    | (go_at_call 7; refine (awake_any _).mono ?_; rintro e w' hr; obtain ⟨rfl, s0, rfl⟩ := hr.over; clear hr)
    | (go_at_call 11; refine (rformed3 _ _ _ _).mono ?_; rintro e w' hr; obtain ⟨rfl, s1, rfl⟩ := hr.over; clear hr))
  go_ret
  exact Ret.mk (by repeat (first | exact ext_refl _ | apply ext_over | apply ext_alloc | (refine ext_set _ ?_ ?_; exact Nat.le_refl _)))

set_option maxRecDepth 8000 in
set_option maxHeartbeats 2000000 in
theorem apart_same_a (s : St) (kind : Int) (f : St) (h1 : fm3 s.g s.m s.k = true) (h3 : fr3 s.g 1073741823 = f) (h5 : fm3 f.g f.m f.k = true) (h6 : fm3 s.g 2 s.k = true) (k1 : 0 ≤ kind) (k2 : kind ≤ 2) (h4 : fm3 s.g 1 kind = true) (a : Int) (y1 : wd3 s.g s.m s.k = a) (hq : ∀ y, (binOp .eql 23 (stV s) (stV s)).run Try.prog y = .ok (.bool true) y) (w : World) : Calls Try.prog 6 #[stV s, stV s, .int .i64 kind] w (Ret (.bool true) w) := by
  have hg := gdSt
  go_enter Try.func6, Try.ntmps6
  go_wp2_with (first
    | (go_at_call 7; refine (awake_any _).mono ?_; rintro e w' hr; obtain ⟨rfl, s0, rfl⟩ := hr.over; clear hr)
    | (go_at_call 11; refine (rformed3 _ _ _ _).mono ?_; rintro e w' hr; obtain ⟨rfl, s1, rfl⟩ := hr.over; clear hr)
    | (go_at_call 16; refine (freed3 _ _ _ _ _).mono ?_; rintro e w' hr; obtain ⟨rfl, s2, rfl⟩ := hr.over; clear hr))
  rename_i sa K hK
  have X0 := Lib.hid (ext_alloc (.cells #[.int .i64 s.g, .int .i64 s.m, .int .i64 s.k] 23) (ext_refl w))
  have X1 := Lib.hid (ext_over (((s0.comp sa).comp s1).comp s2) (ext_alloc (.cells #[.int .i64 s.g, .int .i64 s.m, .int .i64 s.k] 23) X0.out))
  have X2 := Lib.hid (ext_alloc (.cells #[.int .i64 f.g, .int .i64 f.m, .int .i64 f.k] 23) X1.out)
  have B0 := Lib.hid ((((Made.mk #[.int .i64 s.g, .int .i64 s.m, .int .i64 s.k] 23 (ext_refl w)).alloc (.cells #[.int .i64 s.g, .int .i64 s.m, .int .i64 s.k] 23)).over (((s0.comp sa).comp s1).comp s2)).alloc (.cells #[.int .i64 f.g, .int .i64 f.m, .int .i64 f.k] 23))
  have B1 : Hid (Made w (w.heap.size + 1) #[.int .i64 s.g, .int .i64 s.m, .int .i64 s.k] 23 ((over ((w.alloc (.cells #[.int .i64 s.g, .int .i64 s.m, .int .i64 s.k] 23)).alloc (.cells #[.int .i64 s.g, .int .i64 s.m, .int .i64 s.k] 23)) (((s0.comp sa).comp s1).comp s2)).alloc (.cells #[.int .i64 f.g, .int .i64 f.m, .int .i64 f.k] 23))) := Lib.hid (((show Made w (w.heap.size + 1) #[.int .i64 s.g, .int .i64 s.m, .int .i64 s.k] 23 ((w.alloc (.cells #[.int .i64 s.g, .int .i64 s.m, .int .i64 s.k] 23)).alloc (.cells #[.int .i64 s.g, .int .i64 s.m, .int .i64 s.k] 23)) from ⟨hp_at _ _ _ (by simp), Nat.le_succ _⟩).over (((s0.comp sa).comp s1).comp s2)).alloc (.cells #[.int .i64 f.g, .int .i64 f.m, .int .i64 f.k] 23))
  have B2 := Lib.hid (Made.mk #[.int .i64 f.g, .int .i64 f.m, .int .i64 f.k] 23 X1.out)
  generalize ((over ((w.alloc (.cells #[.int .i64 s.g, .int .i64 s.m, .int .i64 s.k] 23)).alloc (.cells #[.int .i64 s.g, .int .i64 s.m, .int .i64 s.k] 23)) (((s0.comp sa).comp s1).comp s2)).alloc (.cells #[.int .i64 f.g, .int .i64 f.m, .int .i64 f.k] 23)) = Y at X2 B0 B1 B2 ⊢
  clear X0 X1
  generalize (over ((w.alloc (.cells #[.int .i64 s.g, .int .i64 s.m, .int .i64 s.k] 23)).alloc (.cells #[.int .i64 s.g, .int .i64 s.m, .int .i64 s.k] 23)) (((s0.comp sa).comp s1).comp s2)).heap.size = bx at B2 ⊢
  generalize w.heap.size + 1 = bt at B1 ⊢
  generalize w.heap.size = bs at B0 ⊢
  have bs0 := cell_at (o := 0) B0.out.1 rfl
  have bs1 := cell_at (o := 1) B0.out.1 rfl
  have bs2 := cell_at (o := 2) B0.out.1 rfl
  have lbs := hp_lt B0.out.1
  have bt0 := cell_at (o := 0) B1.out.1 rfl
  have bt1 := cell_at (o := 1) B1.out.1 rfl
  have bt2 := cell_at (o := 2) B1.out.1 rfl
  have lbt := hp_lt B1.out.1
  have bx0 := cell_at (o := 0) B2.out.1 rfl
  have bx1 := cell_at (o := 1) B2.out.1 rfl
  have bx2 := cell_at (o := 2) B2.out.1 rfl
  have lbx := hp_lt B2.out.1
  simp only [List.getElem_toArray, List.getElem_cons_zero, List.getElem_cons_succ] at bs0 bs1 bs2 bt0 bt1 bt2 bx0 bx1 bx2
  refine wp_region_over (by kernel_rfl) (by kernel_rfl) ?_
  repeat (go_big_quiet_step (first
    | (go_at_call 10; exact over_call (formed3 _ _ _ _))
    | (go_at_call 12; exact over_call (word3 _ _ _ _))
    | (go_at_call 15; exact over_call (retire3 _ _ _ _))
    | (go_at_call 14; exact over_call (live3 _ _ _ _ _))))
  refine wpQuiet_nil ?_
  intro _ hw'
  obtain ⟨s5, hw''⟩ := hw'
  subst hw''
  go_wp2
  go_ret
  exact Ret.mk (ext_over _ X2.out)

set_option maxRecDepth 8000 in
set_option maxHeartbeats 2000000 in
theorem apart_same_b (s : St) (kind : Int) (f : St) (h1 : fm3 s.g s.m s.k = true) (h3 : fr3 s.g 1073741823 = f) (h5 : fm3 f.g f.m f.k = true) (h6 : fm3 s.g 2 s.k = true) (k1 : decide (0 ≤ kind) = false) (h4 : fm3 s.g 1 kind = false) (a : Int) (y1 : wd3 s.g s.m s.k = a) (hq : ∀ y, (binOp .eql 23 (stV s) (stV s)).run Try.prog y = .ok (.bool true) y) (w : World) : Calls Try.prog 6 #[stV s, stV s, .int .i64 kind] w (Ret (.bool true) w) := by
  have hg := gdSt
  go_enter Try.func6, Try.ntmps6
  go_wp2_with (first
    | (go_at_call 7; refine (awake_any _).mono ?_; rintro e w' hr; obtain ⟨rfl, s0, rfl⟩ := hr.over; clear hr)
    | (go_at_call 11; refine (rformed3 _ _ _ _).mono ?_; rintro e w' hr; obtain ⟨rfl, s1, rfl⟩ := hr.over; clear hr)
    | (go_at_call 16; refine (freed3 _ _ _ _ _).mono ?_; rintro e w' hr; obtain ⟨rfl, s2, rfl⟩ := hr.over; clear hr))
  rename_i sa K hK
  have X0 := Lib.hid (ext_alloc (.cells #[.int .i64 s.g, .int .i64 s.m, .int .i64 s.k] 23) (ext_refl w))
  have X1 := Lib.hid (ext_over (((s0.comp sa).comp s1).comp s2) (ext_alloc (.cells #[.int .i64 s.g, .int .i64 s.m, .int .i64 s.k] 23) X0.out))
  have X2 := Lib.hid (ext_alloc (.cells #[.int .i64 f.g, .int .i64 f.m, .int .i64 f.k] 23) X1.out)
  have B0 := Lib.hid ((((Made.mk #[.int .i64 s.g, .int .i64 s.m, .int .i64 s.k] 23 (ext_refl w)).alloc (.cells #[.int .i64 s.g, .int .i64 s.m, .int .i64 s.k] 23)).over (((s0.comp sa).comp s1).comp s2)).alloc (.cells #[.int .i64 f.g, .int .i64 f.m, .int .i64 f.k] 23))
  have B1 : Hid (Made w (w.heap.size + 1) #[.int .i64 s.g, .int .i64 s.m, .int .i64 s.k] 23 ((over ((w.alloc (.cells #[.int .i64 s.g, .int .i64 s.m, .int .i64 s.k] 23)).alloc (.cells #[.int .i64 s.g, .int .i64 s.m, .int .i64 s.k] 23)) (((s0.comp sa).comp s1).comp s2)).alloc (.cells #[.int .i64 f.g, .int .i64 f.m, .int .i64 f.k] 23))) := Lib.hid (((show Made w (w.heap.size + 1) #[.int .i64 s.g, .int .i64 s.m, .int .i64 s.k] 23 ((w.alloc (.cells #[.int .i64 s.g, .int .i64 s.m, .int .i64 s.k] 23)).alloc (.cells #[.int .i64 s.g, .int .i64 s.m, .int .i64 s.k] 23)) from ⟨hp_at _ _ _ (by simp), Nat.le_succ _⟩).over (((s0.comp sa).comp s1).comp s2)).alloc (.cells #[.int .i64 f.g, .int .i64 f.m, .int .i64 f.k] 23))
  have B2 := Lib.hid (Made.mk #[.int .i64 f.g, .int .i64 f.m, .int .i64 f.k] 23 X1.out)
  generalize ((over ((w.alloc (.cells #[.int .i64 s.g, .int .i64 s.m, .int .i64 s.k] 23)).alloc (.cells #[.int .i64 s.g, .int .i64 s.m, .int .i64 s.k] 23)) (((s0.comp sa).comp s1).comp s2)).alloc (.cells #[.int .i64 f.g, .int .i64 f.m, .int .i64 f.k] 23)) = Y at X2 B0 B1 B2 ⊢
  clear X0 X1
  generalize (over ((w.alloc (.cells #[.int .i64 s.g, .int .i64 s.m, .int .i64 s.k] 23)).alloc (.cells #[.int .i64 s.g, .int .i64 s.m, .int .i64 s.k] 23)) (((s0.comp sa).comp s1).comp s2)).heap.size = bx at B2 ⊢
  generalize w.heap.size + 1 = bt at B1 ⊢
  generalize w.heap.size = bs at B0 ⊢
  have bs0 := cell_at (o := 0) B0.out.1 rfl
  have bs1 := cell_at (o := 1) B0.out.1 rfl
  have bs2 := cell_at (o := 2) B0.out.1 rfl
  have lbs := hp_lt B0.out.1
  have bt0 := cell_at (o := 0) B1.out.1 rfl
  have bt1 := cell_at (o := 1) B1.out.1 rfl
  have bt2 := cell_at (o := 2) B1.out.1 rfl
  have lbt := hp_lt B1.out.1
  have bx0 := cell_at (o := 0) B2.out.1 rfl
  have bx1 := cell_at (o := 1) B2.out.1 rfl
  have bx2 := cell_at (o := 2) B2.out.1 rfl
  have lbx := hp_lt B2.out.1
  simp only [List.getElem_toArray, List.getElem_cons_zero, List.getElem_cons_succ] at bs0 bs1 bs2 bt0 bt1 bt2 bx0 bx1 bx2
  refine wp_region_over (by kernel_rfl) (by kernel_rfl) ?_
  repeat (go_big_quiet_step (first
    | (go_at_call 10; exact over_call (formed3 _ _ _ _))
    | (go_at_call 12; exact over_call (word3 _ _ _ _))
    | (go_at_call 15; exact over_call (retire3 _ _ _ _))
    | (go_at_call 14; exact over_call (live3 _ _ _ _ _))))
  refine wpQuiet_nil ?_
  intro _ hw'
  obtain ⟨s5, hw''⟩ := hw'
  subst hw''
  go_wp2
  go_ret
  exact Ret.mk (ext_over _ X2.out)

set_option maxRecDepth 8000 in
set_option maxHeartbeats 2000000 in
theorem apart_same_c (s : St) (kind : Int) (f : St) (h1 : fm3 s.g s.m s.k = true) (h3 : fr3 s.g 1073741823 = f) (h5 : fm3 f.g f.m f.k = true) (h6 : fm3 s.g 2 s.k = true) (k1 : 0 ≤ kind) (k2 : decide (kind ≤ 2) = false) (h4 : fm3 s.g 1 kind = false) (a : Int) (y1 : wd3 s.g s.m s.k = a) (hq : ∀ y, (binOp .eql 23 (stV s) (stV s)).run Try.prog y = .ok (.bool true) y) (w : World) : Calls Try.prog 6 #[stV s, stV s, .int .i64 kind] w (Ret (.bool true) w) := by
  have hg := gdSt
  go_enter Try.func6, Try.ntmps6
  go_wp2_with (first
    | (go_at_call 7; refine (awake_any _).mono ?_; rintro e w' hr; obtain ⟨rfl, s0, rfl⟩ := hr.over; clear hr)
    | (go_at_call 11; refine (rformed3 _ _ _ _).mono ?_; rintro e w' hr; obtain ⟨rfl, s1, rfl⟩ := hr.over; clear hr)
    | (go_at_call 16; refine (freed3 _ _ _ _ _).mono ?_; rintro e w' hr; obtain ⟨rfl, s2, rfl⟩ := hr.over; clear hr))
  rename_i sa K hK
  have X0 := Lib.hid (ext_alloc (.cells #[.int .i64 s.g, .int .i64 s.m, .int .i64 s.k] 23) (ext_refl w))
  have X1 := Lib.hid (ext_over (((s0.comp sa).comp s1).comp s2) (ext_alloc (.cells #[.int .i64 s.g, .int .i64 s.m, .int .i64 s.k] 23) X0.out))
  have X2 := Lib.hid (ext_alloc (.cells #[.int .i64 f.g, .int .i64 f.m, .int .i64 f.k] 23) X1.out)
  have B0 := Lib.hid ((((Made.mk #[.int .i64 s.g, .int .i64 s.m, .int .i64 s.k] 23 (ext_refl w)).alloc (.cells #[.int .i64 s.g, .int .i64 s.m, .int .i64 s.k] 23)).over (((s0.comp sa).comp s1).comp s2)).alloc (.cells #[.int .i64 f.g, .int .i64 f.m, .int .i64 f.k] 23))
  have B1 : Hid (Made w (w.heap.size + 1) #[.int .i64 s.g, .int .i64 s.m, .int .i64 s.k] 23 ((over ((w.alloc (.cells #[.int .i64 s.g, .int .i64 s.m, .int .i64 s.k] 23)).alloc (.cells #[.int .i64 s.g, .int .i64 s.m, .int .i64 s.k] 23)) (((s0.comp sa).comp s1).comp s2)).alloc (.cells #[.int .i64 f.g, .int .i64 f.m, .int .i64 f.k] 23))) := Lib.hid (((show Made w (w.heap.size + 1) #[.int .i64 s.g, .int .i64 s.m, .int .i64 s.k] 23 ((w.alloc (.cells #[.int .i64 s.g, .int .i64 s.m, .int .i64 s.k] 23)).alloc (.cells #[.int .i64 s.g, .int .i64 s.m, .int .i64 s.k] 23)) from ⟨hp_at _ _ _ (by simp), Nat.le_succ _⟩).over (((s0.comp sa).comp s1).comp s2)).alloc (.cells #[.int .i64 f.g, .int .i64 f.m, .int .i64 f.k] 23))
  have B2 := Lib.hid (Made.mk #[.int .i64 f.g, .int .i64 f.m, .int .i64 f.k] 23 X1.out)
  generalize ((over ((w.alloc (.cells #[.int .i64 s.g, .int .i64 s.m, .int .i64 s.k] 23)).alloc (.cells #[.int .i64 s.g, .int .i64 s.m, .int .i64 s.k] 23)) (((s0.comp sa).comp s1).comp s2)).alloc (.cells #[.int .i64 f.g, .int .i64 f.m, .int .i64 f.k] 23)) = Y at X2 B0 B1 B2 ⊢
  clear X0 X1
  generalize (over ((w.alloc (.cells #[.int .i64 s.g, .int .i64 s.m, .int .i64 s.k] 23)).alloc (.cells #[.int .i64 s.g, .int .i64 s.m, .int .i64 s.k] 23)) (((s0.comp sa).comp s1).comp s2)).heap.size = bx at B2 ⊢
  generalize w.heap.size + 1 = bt at B1 ⊢
  generalize w.heap.size = bs at B0 ⊢
  have bs0 := cell_at (o := 0) B0.out.1 rfl
  have bs1 := cell_at (o := 1) B0.out.1 rfl
  have bs2 := cell_at (o := 2) B0.out.1 rfl
  have lbs := hp_lt B0.out.1
  have bt0 := cell_at (o := 0) B1.out.1 rfl
  have bt1 := cell_at (o := 1) B1.out.1 rfl
  have bt2 := cell_at (o := 2) B1.out.1 rfl
  have lbt := hp_lt B1.out.1
  have bx0 := cell_at (o := 0) B2.out.1 rfl
  have bx1 := cell_at (o := 1) B2.out.1 rfl
  have bx2 := cell_at (o := 2) B2.out.1 rfl
  have lbx := hp_lt B2.out.1
  simp only [List.getElem_toArray, List.getElem_cons_zero, List.getElem_cons_succ] at bs0 bs1 bs2 bt0 bt1 bt2 bx0 bx1 bx2
  refine wp_region_over (by kernel_rfl) (by kernel_rfl) ?_
  repeat (go_big_quiet_step (first
    | (go_at_call 10; exact over_call (formed3 _ _ _ _))
    | (go_at_call 12; exact over_call (word3 _ _ _ _))
    | (go_at_call 15; exact over_call (retire3 _ _ _ _))
    | (go_at_call 14; exact over_call (live3 _ _ _ _ _))))
  refine wpQuiet_nil ?_
  intro _ hw'
  obtain ⟨s5, hw''⟩ := hw'
  subst hw''
  go_wp2
  go_ret
  exact Ret.mk (ext_over _ X2.out)

set_option maxRecDepth 8000 in
set_option maxHeartbeats 2000000 in
theorem apart_other_a (s t : St) (kind : Int) (f : St) (h1 : fm3 s.g s.m s.k = true) (h2 : fm3 t.g t.m t.k = true) (h3 : fr3 s.g 1073741823 = f) (h5 : fm3 f.g f.m f.k = true) (h6 : fm3 s.g 2 s.k = true) (k1 : 0 ≤ kind) (k2 : kind ≤ 2) (h4 : fm3 s.g 1 kind = true) (a : Int) (y1 : wd3 s.g s.m s.k = a) (b : Int) (y2 : wd3 t.g t.m t.k = b) (hab : (a == b) = false) (hq : ∀ y, (binOp .eql 23 (stV s) (stV t)).run Try.prog y = .ok (.bool false) y) (w : World) : Calls Try.prog 6 #[stV s, stV t, .int .i64 kind] w (Ret (.bool true) w) := by
  have hg := gdSt
  go_enter Try.func6, Try.ntmps6
  go_wp2_with (first
    | (go_at_call 7; refine (awake_any _).mono ?_; rintro e w' hr; obtain ⟨rfl, s0, rfl⟩ := hr.over; clear hr)
    | (go_at_call 11; refine (rformed3 _ _ _ _).mono ?_; rintro e w' hr; obtain ⟨rfl, s1, rfl⟩ := hr.over; clear hr)
    | (go_at_call 16; refine (freed3 _ _ _ _ _).mono ?_; rintro e w' hr; obtain ⟨rfl, s2, rfl⟩ := hr.over; clear hr))
  rename_i sa K hK
  have X0 := Lib.hid (ext_alloc (.cells #[.int .i64 s.g, .int .i64 s.m, .int .i64 s.k] 23) (ext_refl w))
  have X1 := Lib.hid (ext_over (((s0.comp sa).comp s1).comp s2) (ext_alloc (.cells #[.int .i64 t.g, .int .i64 t.m, .int .i64 t.k] 23) X0.out))
  have X2 := Lib.hid (ext_alloc (.cells #[.int .i64 f.g, .int .i64 f.m, .int .i64 f.k] 23) X1.out)
  have B0 := Lib.hid ((((Made.mk #[.int .i64 s.g, .int .i64 s.m, .int .i64 s.k] 23 (ext_refl w)).alloc (.cells #[.int .i64 t.g, .int .i64 t.m, .int .i64 t.k] 23)).over (((s0.comp sa).comp s1).comp s2)).alloc (.cells #[.int .i64 f.g, .int .i64 f.m, .int .i64 f.k] 23))
  have B1 : Hid (Made w (w.heap.size + 1) #[.int .i64 t.g, .int .i64 t.m, .int .i64 t.k] 23 ((over ((w.alloc (.cells #[.int .i64 s.g, .int .i64 s.m, .int .i64 s.k] 23)).alloc (.cells #[.int .i64 t.g, .int .i64 t.m, .int .i64 t.k] 23)) (((s0.comp sa).comp s1).comp s2)).alloc (.cells #[.int .i64 f.g, .int .i64 f.m, .int .i64 f.k] 23))) := Lib.hid (((show Made w (w.heap.size + 1) #[.int .i64 t.g, .int .i64 t.m, .int .i64 t.k] 23 ((w.alloc (.cells #[.int .i64 s.g, .int .i64 s.m, .int .i64 s.k] 23)).alloc (.cells #[.int .i64 t.g, .int .i64 t.m, .int .i64 t.k] 23)) from ⟨hp_at _ _ _ (by simp), Nat.le_succ _⟩).over (((s0.comp sa).comp s1).comp s2)).alloc (.cells #[.int .i64 f.g, .int .i64 f.m, .int .i64 f.k] 23))
  have B2 := Lib.hid (Made.mk #[.int .i64 f.g, .int .i64 f.m, .int .i64 f.k] 23 X1.out)
  generalize ((over ((w.alloc (.cells #[.int .i64 s.g, .int .i64 s.m, .int .i64 s.k] 23)).alloc (.cells #[.int .i64 t.g, .int .i64 t.m, .int .i64 t.k] 23)) (((s0.comp sa).comp s1).comp s2)).alloc (.cells #[.int .i64 f.g, .int .i64 f.m, .int .i64 f.k] 23)) = Y at X2 B0 B1 B2 ⊢
  clear X0 X1
  generalize (over ((w.alloc (.cells #[.int .i64 s.g, .int .i64 s.m, .int .i64 s.k] 23)).alloc (.cells #[.int .i64 t.g, .int .i64 t.m, .int .i64 t.k] 23)) (((s0.comp sa).comp s1).comp s2)).heap.size = bx at B2 ⊢
  generalize w.heap.size + 1 = bt at B1 ⊢
  generalize w.heap.size = bs at B0 ⊢
  have bs0 := cell_at (o := 0) B0.out.1 rfl
  have bs1 := cell_at (o := 1) B0.out.1 rfl
  have bs2 := cell_at (o := 2) B0.out.1 rfl
  have lbs := hp_lt B0.out.1
  have bt0 := cell_at (o := 0) B1.out.1 rfl
  have bt1 := cell_at (o := 1) B1.out.1 rfl
  have bt2 := cell_at (o := 2) B1.out.1 rfl
  have lbt := hp_lt B1.out.1
  have bx0 := cell_at (o := 0) B2.out.1 rfl
  have bx1 := cell_at (o := 1) B2.out.1 rfl
  have bx2 := cell_at (o := 2) B2.out.1 rfl
  have lbx := hp_lt B2.out.1
  simp only [List.getElem_toArray, List.getElem_cons_zero, List.getElem_cons_succ] at bs0 bs1 bs2 bt0 bt1 bt2 bx0 bx1 bx2
  refine wp_region_over (by kernel_rfl) (by kernel_rfl) ?_
  repeat (go_big_quiet_step (first
    | (go_at_call 10; exact over_call (formed3 _ _ _ _))
    | (go_at_call 12; exact over_call (word3 _ _ _ _))
    | (go_at_call 15; exact over_call (retire3 _ _ _ _))
    | (go_at_call 14; exact over_call (live3 _ _ _ _ _))))
  refine wpQuiet_nil ?_
  intro _ hw'
  obtain ⟨s5, hw''⟩ := hw'
  subst hw''
  go_wp2
  go_ret
  exact Ret.mk (ext_over _ X2.out)

set_option maxRecDepth 8000 in
set_option maxHeartbeats 2000000 in
theorem apart_other_b (s t : St) (kind : Int) (f : St) (h1 : fm3 s.g s.m s.k = true) (h2 : fm3 t.g t.m t.k = true) (h3 : fr3 s.g 1073741823 = f) (h5 : fm3 f.g f.m f.k = true) (h6 : fm3 s.g 2 s.k = true) (k1 : decide (0 ≤ kind) = false) (h4 : fm3 s.g 1 kind = false) (a : Int) (y1 : wd3 s.g s.m s.k = a) (b : Int) (y2 : wd3 t.g t.m t.k = b) (hab : (a == b) = false) (hq : ∀ y, (binOp .eql 23 (stV s) (stV t)).run Try.prog y = .ok (.bool false) y) (w : World) : Calls Try.prog 6 #[stV s, stV t, .int .i64 kind] w (Ret (.bool true) w) := by
  have hg := gdSt
  go_enter Try.func6, Try.ntmps6
  go_wp2_with (first
    | (go_at_call 7; refine (awake_any _).mono ?_; rintro e w' hr; obtain ⟨rfl, s0, rfl⟩ := hr.over; clear hr)
    | (go_at_call 11; refine (rformed3 _ _ _ _).mono ?_; rintro e w' hr; obtain ⟨rfl, s1, rfl⟩ := hr.over; clear hr)
    | (go_at_call 16; refine (freed3 _ _ _ _ _).mono ?_; rintro e w' hr; obtain ⟨rfl, s2, rfl⟩ := hr.over; clear hr))
  rename_i sa K hK
  have X0 := Lib.hid (ext_alloc (.cells #[.int .i64 s.g, .int .i64 s.m, .int .i64 s.k] 23) (ext_refl w))
  have X1 := Lib.hid (ext_over (((s0.comp sa).comp s1).comp s2) (ext_alloc (.cells #[.int .i64 t.g, .int .i64 t.m, .int .i64 t.k] 23) X0.out))
  have X2 := Lib.hid (ext_alloc (.cells #[.int .i64 f.g, .int .i64 f.m, .int .i64 f.k] 23) X1.out)
  have B0 := Lib.hid ((((Made.mk #[.int .i64 s.g, .int .i64 s.m, .int .i64 s.k] 23 (ext_refl w)).alloc (.cells #[.int .i64 t.g, .int .i64 t.m, .int .i64 t.k] 23)).over (((s0.comp sa).comp s1).comp s2)).alloc (.cells #[.int .i64 f.g, .int .i64 f.m, .int .i64 f.k] 23))
  have B1 : Hid (Made w (w.heap.size + 1) #[.int .i64 t.g, .int .i64 t.m, .int .i64 t.k] 23 ((over ((w.alloc (.cells #[.int .i64 s.g, .int .i64 s.m, .int .i64 s.k] 23)).alloc (.cells #[.int .i64 t.g, .int .i64 t.m, .int .i64 t.k] 23)) (((s0.comp sa).comp s1).comp s2)).alloc (.cells #[.int .i64 f.g, .int .i64 f.m, .int .i64 f.k] 23))) := Lib.hid (((show Made w (w.heap.size + 1) #[.int .i64 t.g, .int .i64 t.m, .int .i64 t.k] 23 ((w.alloc (.cells #[.int .i64 s.g, .int .i64 s.m, .int .i64 s.k] 23)).alloc (.cells #[.int .i64 t.g, .int .i64 t.m, .int .i64 t.k] 23)) from ⟨hp_at _ _ _ (by simp), Nat.le_succ _⟩).over (((s0.comp sa).comp s1).comp s2)).alloc (.cells #[.int .i64 f.g, .int .i64 f.m, .int .i64 f.k] 23))
  have B2 := Lib.hid (Made.mk #[.int .i64 f.g, .int .i64 f.m, .int .i64 f.k] 23 X1.out)
  generalize ((over ((w.alloc (.cells #[.int .i64 s.g, .int .i64 s.m, .int .i64 s.k] 23)).alloc (.cells #[.int .i64 t.g, .int .i64 t.m, .int .i64 t.k] 23)) (((s0.comp sa).comp s1).comp s2)).alloc (.cells #[.int .i64 f.g, .int .i64 f.m, .int .i64 f.k] 23)) = Y at X2 B0 B1 B2 ⊢
  clear X0 X1
  generalize (over ((w.alloc (.cells #[.int .i64 s.g, .int .i64 s.m, .int .i64 s.k] 23)).alloc (.cells #[.int .i64 t.g, .int .i64 t.m, .int .i64 t.k] 23)) (((s0.comp sa).comp s1).comp s2)).heap.size = bx at B2 ⊢
  generalize w.heap.size + 1 = bt at B1 ⊢
  generalize w.heap.size = bs at B0 ⊢
  have bs0 := cell_at (o := 0) B0.out.1 rfl
  have bs1 := cell_at (o := 1) B0.out.1 rfl
  have bs2 := cell_at (o := 2) B0.out.1 rfl
  have lbs := hp_lt B0.out.1
  have bt0 := cell_at (o := 0) B1.out.1 rfl
  have bt1 := cell_at (o := 1) B1.out.1 rfl
  have bt2 := cell_at (o := 2) B1.out.1 rfl
  have lbt := hp_lt B1.out.1
  have bx0 := cell_at (o := 0) B2.out.1 rfl
  have bx1 := cell_at (o := 1) B2.out.1 rfl
  have bx2 := cell_at (o := 2) B2.out.1 rfl
  have lbx := hp_lt B2.out.1
  simp only [List.getElem_toArray, List.getElem_cons_zero, List.getElem_cons_succ] at bs0 bs1 bs2 bt0 bt1 bt2 bx0 bx1 bx2
  refine wp_region_over (by kernel_rfl) (by kernel_rfl) ?_
  repeat (go_big_quiet_step (first
    | (go_at_call 10; exact over_call (formed3 _ _ _ _))
    | (go_at_call 12; exact over_call (word3 _ _ _ _))
    | (go_at_call 15; exact over_call (retire3 _ _ _ _))
    | (go_at_call 14; exact over_call (live3 _ _ _ _ _))))
  refine wpQuiet_nil ?_
  intro _ hw'
  obtain ⟨s5, hw''⟩ := hw'
  subst hw''
  go_wp2
  go_ret
  exact Ret.mk (ext_over _ X2.out)

set_option maxRecDepth 8000 in
set_option maxHeartbeats 2000000 in
theorem apart_other_c (s t : St) (kind : Int) (f : St) (h1 : fm3 s.g s.m s.k = true) (h2 : fm3 t.g t.m t.k = true) (h3 : fr3 s.g 1073741823 = f) (h5 : fm3 f.g f.m f.k = true) (h6 : fm3 s.g 2 s.k = true) (k1 : 0 ≤ kind) (k2 : decide (kind ≤ 2) = false) (h4 : fm3 s.g 1 kind = false) (a : Int) (y1 : wd3 s.g s.m s.k = a) (b : Int) (y2 : wd3 t.g t.m t.k = b) (hab : (a == b) = false) (hq : ∀ y, (binOp .eql 23 (stV s) (stV t)).run Try.prog y = .ok (.bool false) y) (w : World) : Calls Try.prog 6 #[stV s, stV t, .int .i64 kind] w (Ret (.bool true) w) := by
  have hg := gdSt
  go_enter Try.func6, Try.ntmps6
  go_wp2_with (first
    | (go_at_call 7; refine (awake_any _).mono ?_; rintro e w' hr; obtain ⟨rfl, s0, rfl⟩ := hr.over; clear hr)
    | (go_at_call 11; refine (rformed3 _ _ _ _).mono ?_; rintro e w' hr; obtain ⟨rfl, s1, rfl⟩ := hr.over; clear hr)
    | (go_at_call 16; refine (freed3 _ _ _ _ _).mono ?_; rintro e w' hr; obtain ⟨rfl, s2, rfl⟩ := hr.over; clear hr))
  rename_i sa K hK
  have X0 := Lib.hid (ext_alloc (.cells #[.int .i64 s.g, .int .i64 s.m, .int .i64 s.k] 23) (ext_refl w))
  have X1 := Lib.hid (ext_over (((s0.comp sa).comp s1).comp s2) (ext_alloc (.cells #[.int .i64 t.g, .int .i64 t.m, .int .i64 t.k] 23) X0.out))
  have X2 := Lib.hid (ext_alloc (.cells #[.int .i64 f.g, .int .i64 f.m, .int .i64 f.k] 23) X1.out)
  have B0 := Lib.hid ((((Made.mk #[.int .i64 s.g, .int .i64 s.m, .int .i64 s.k] 23 (ext_refl w)).alloc (.cells #[.int .i64 t.g, .int .i64 t.m, .int .i64 t.k] 23)).over (((s0.comp sa).comp s1).comp s2)).alloc (.cells #[.int .i64 f.g, .int .i64 f.m, .int .i64 f.k] 23))
  have B1 : Hid (Made w (w.heap.size + 1) #[.int .i64 t.g, .int .i64 t.m, .int .i64 t.k] 23 ((over ((w.alloc (.cells #[.int .i64 s.g, .int .i64 s.m, .int .i64 s.k] 23)).alloc (.cells #[.int .i64 t.g, .int .i64 t.m, .int .i64 t.k] 23)) (((s0.comp sa).comp s1).comp s2)).alloc (.cells #[.int .i64 f.g, .int .i64 f.m, .int .i64 f.k] 23))) := Lib.hid (((show Made w (w.heap.size + 1) #[.int .i64 t.g, .int .i64 t.m, .int .i64 t.k] 23 ((w.alloc (.cells #[.int .i64 s.g, .int .i64 s.m, .int .i64 s.k] 23)).alloc (.cells #[.int .i64 t.g, .int .i64 t.m, .int .i64 t.k] 23)) from ⟨hp_at _ _ _ (by simp), Nat.le_succ _⟩).over (((s0.comp sa).comp s1).comp s2)).alloc (.cells #[.int .i64 f.g, .int .i64 f.m, .int .i64 f.k] 23))
  have B2 := Lib.hid (Made.mk #[.int .i64 f.g, .int .i64 f.m, .int .i64 f.k] 23 X1.out)
  generalize ((over ((w.alloc (.cells #[.int .i64 s.g, .int .i64 s.m, .int .i64 s.k] 23)).alloc (.cells #[.int .i64 t.g, .int .i64 t.m, .int .i64 t.k] 23)) (((s0.comp sa).comp s1).comp s2)).alloc (.cells #[.int .i64 f.g, .int .i64 f.m, .int .i64 f.k] 23)) = Y at X2 B0 B1 B2 ⊢
  clear X0 X1
  generalize (over ((w.alloc (.cells #[.int .i64 s.g, .int .i64 s.m, .int .i64 s.k] 23)).alloc (.cells #[.int .i64 t.g, .int .i64 t.m, .int .i64 t.k] 23)) (((s0.comp sa).comp s1).comp s2)).heap.size = bx at B2 ⊢
  generalize w.heap.size + 1 = bt at B1 ⊢
  generalize w.heap.size = bs at B0 ⊢
  have bs0 := cell_at (o := 0) B0.out.1 rfl
  have bs1 := cell_at (o := 1) B0.out.1 rfl
  have bs2 := cell_at (o := 2) B0.out.1 rfl
  have lbs := hp_lt B0.out.1
  have bt0 := cell_at (o := 0) B1.out.1 rfl
  have bt1 := cell_at (o := 1) B1.out.1 rfl
  have bt2 := cell_at (o := 2) B1.out.1 rfl
  have lbt := hp_lt B1.out.1
  have bx0 := cell_at (o := 0) B2.out.1 rfl
  have bx1 := cell_at (o := 1) B2.out.1 rfl
  have bx2 := cell_at (o := 2) B2.out.1 rfl
  have lbx := hp_lt B2.out.1
  simp only [List.getElem_toArray, List.getElem_cons_zero, List.getElem_cons_succ] at bs0 bs1 bs2 bt0 bt1 bt2 bx0 bx1 bx2
  refine wp_region_over (by kernel_rfl) (by kernel_rfl) ?_
  repeat (go_big_quiet_step (first
    | (go_at_call 10; exact over_call (formed3 _ _ _ _))
    | (go_at_call 12; exact over_call (word3 _ _ _ _))
    | (go_at_call 15; exact over_call (retire3 _ _ _ _))
    | (go_at_call 14; exact over_call (live3 _ _ _ _ _))))
  refine wpQuiet_nil ?_
  intro _ hw'
  obtain ⟨s5, hw''⟩ := hw'
  subst hw''
  go_wp2
  go_ret
  exact Ret.mk (ext_over _ X2.out)

theorem freed_most (s : St) (h : s.ok) : (s.freed 1073741823).ok := by
  unfold St.ok at h
  unfold St.freed
  split
  · unfold St.ok; dsimp only; omega
  · rename_i hn
    have e : wrap64 (s.g + 1) = s.g + 1 := by unfold wrap64; omega
    rw [e]
    unfold St.ok; dsimp only; omega
theorem stateApart_any (s t : St) (kind : Int) (w : World) : Calls Try.prog 6 #[stV s, stV t, .int .i64 kind] w (Ret (.bool true) w) := by
  by_cases h1 : s.ok
  · by_cases h2 : t.ok
    · have h5 := fm3_yes (freed_most s h1)
      have h1' := h1
      unfold St.ok at h1'
      have h6 : fm3 s.g 2 s.k = true := fm3_yes (by unfold St.ok; dsimp only; omega)
      by_cases e : s = t
      · subst e
        have hq : ∀ y, (binOp .eql 23 (stV s) (stV s)).run Try.prog y = .ok (.bool true) y := fun y => by rw [eqSt, decide_eq_true rfl]
        by_cases k1 : 0 ≤ kind
        · by_cases k2 : kind ≤ 2
          · exact apart_same_a s kind _ (fm3_yes h1) (fr3_is s _) h5 h6 k1 k2 (fm3_yes (by unfold St.ok; dsimp only; omega)) _ rfl hq w
          · exact apart_same_c s kind _ (fm3_yes h1) (fr3_is s _) h5 h6 k1 (decide_eq_false k2) (fm3_no (by unfold St.ok; dsimp only; omega)) _ rfl hq w
        · exact apart_same_b s kind _ (fm3_yes h1) (fr3_is s _) h5 h6 (decide_eq_false k1) (fm3_no (by unfold St.ok; dsimp only; omega)) _ rfl hq w
      · have hq : ∀ y, (binOp .eql 23 (stV s) (stV t)).run Try.prog y = .ok (.bool false) y := fun y => by rw [eqSt, decide_eq_false e]
        have hab : (wd3 s.g s.m s.k == wd3 t.g t.m t.k) = false := by
          rw [wd3_is, wd3_is]
          exact beq_false_of_ne fun hh => e (word_inj h1 h2 (U_inj hh))
        by_cases k1 : 0 ≤ kind
        · by_cases k2 : kind ≤ 2
          · exact apart_other_a s t kind _ (fm3_yes h1) (fm3_yes h2) (fr3_is s _) h5 h6 k1 k2 (fm3_yes (by unfold St.ok; dsimp only; omega)) _ rfl _ rfl hab hq w
          · exact apart_other_c s t kind _ (fm3_yes h1) (fm3_yes h2) (fr3_is s _) h5 h6 k1 (decide_eq_false k2) (fm3_no (by unfold St.ok; dsimp only; omega)) _ rfl _ rfl hab hq w
        · exact apart_other_b s t kind _ (fm3_yes h1) (fm3_yes h2) (fr3_is s _) h5 h6 (decide_eq_false k1) (fm3_no (by unfold St.ok; dsimp only; omega)) _ rfl _ rfl hab hq w
    · exact apart_no2 s t kind (fm3_yes h1) (fm3_no h2) w
  · exact apart_no1 s t kind (fm3_no h1) w

end Go.Proofs.Ytegcdiepedgodaa
