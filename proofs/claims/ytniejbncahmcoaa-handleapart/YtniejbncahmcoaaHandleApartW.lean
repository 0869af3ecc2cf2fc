/-
  HandleApart: the call's ways, walked. Conditions: those of each theorem.
-/
import Derived.Test.YtniejbncahmcoaaHandleMn
namespace Go.Proofs.Ytniejbncahmcoaa
open Go Go.RowKit

/-- Whether three numbers are a formed handle; their word: names that nobody takes apart. -/
def hfm3 (i g t : Int) : Bool := decide (Hn.ok ⟨i, g, t⟩)
def hwd3 (i g t : Int) : Int := U (Hn.word ⟨i, g, t⟩)
theorem hfm3_yes {i g t : Int} (h : Hn.ok ⟨i, g, t⟩) : hfm3 i g t = true := decide_eq_true h
theorem hfm3_no {i g t : Int} (h : ¬ Hn.ok ⟨i, g, t⟩) : hfm3 i g t = false := decide_eq_false h
theorem hfm3_iff (i g t : Int) : hfm3 i g t = true ↔ Hn.ok ⟨i, g, t⟩ := by unfold hfm3; simp only [decide_eq_true_eq]
theorem hwd3_is (i g t : Int) : hwd3 i g t = U (Hn.word ⟨i, g, t⟩) := rfl
attribute [irreducible] hfm3 hwd3
theorem rhformed3 (i g t : Int) (w : World) : Calls Try.prog 11 #[.agg #[.int .i64 i, .int .i64 g, .int .i64 t]] w (Ret (.bool (hfm3 i g t)) w) :=
  rhformed_any ⟨i, g, t⟩ w _ (Lib.hid (hfm3_iff i g t))
theorem hword3 (i g t : Int) (w : World) : Calls Try.prog 12 #[.agg #[.int .i64 i, .int .i64 g, .int .i64 t]] w (Ret (.int .u64 (hwd3 i g t)) w) := by
  rw [hwd3_is]
  exact hword_any ⟨i, g, t⟩ w

set_option maxRecDepth 8000 in
set_option maxHeartbeats 2000000 in
theorem hap_no1 (s g : Hn) (t n : Int) (h1 : hfm3 s.i s.g s.t = false) (w : World) : Calls Try.prog 6 #[hnV s, hnV g, .agg #[.int .i64 t, .int .i64 n]] w (Ret (.bool true) w) := by
  go_enter Try.func6, Try.ntmps6
  go_wp2
  have X0 := Lib.hid (ext_alloc (.cells #[.int .i64 t, .int .i64 n] 35) (ext_alloc (.cells #[.int .i64 g.i, .int .i64 g.g, .int .i64 g.t] 23) (ext_alloc (.cells #[.int .i64 s.i, .int .i64 s.g, .int .i64 s.t] 23) (ext_refl w))))
  have B0 := Lib.hid (((Made.mk #[.int .i64 s.i, .int .i64 s.g, .int .i64 s.t] 23 (ext_refl w)).alloc (.cells #[.int .i64 g.i, .int .i64 g.g, .int .i64 g.t] 23)).alloc (.cells #[.int .i64 t, .int .i64 n] 35))
  have B1 : Hid (Made w (w.heap.size + 1) #[.int .i64 g.i, .int .i64 g.g, .int .i64 g.t] 23 (((w.alloc (.cells #[.int .i64 s.i, .int .i64 s.g, .int .i64 s.t] 23)).alloc (.cells #[.int .i64 g.i, .int .i64 g.g, .int .i64 g.t] 23)).alloc (.cells #[.int .i64 t, .int .i64 n] 35))) := Lib.hid ((show Made w (w.heap.size + 1) #[.int .i64 g.i, .int .i64 g.g, .int .i64 g.t] 23 ((w.alloc (.cells #[.int .i64 s.i, .int .i64 s.g, .int .i64 s.t] 23)).alloc (.cells #[.int .i64 g.i, .int .i64 g.g, .int .i64 g.t] 23)) from ⟨hp_at _ _ _ (by simp), Nat.le_succ _⟩).alloc (.cells #[.int .i64 t, .int .i64 n] 35))
  have B2 : Hid (Made w (w.heap.size + 1 + 1) #[.int .i64 t, .int .i64 n] 35 (((w.alloc (.cells #[.int .i64 s.i, .int .i64 s.g, .int .i64 s.t] 23)).alloc (.cells #[.int .i64 g.i, .int .i64 g.g, .int .i64 g.t] 23)).alloc (.cells #[.int .i64 t, .int .i64 n] 35))) := Lib.hid ⟨hp_at _ _ _ (by simp), Nat.le_succ_of_le (Nat.le_succ _)⟩
  generalize (((w.alloc (.cells #[.int .i64 s.i, .int .i64 s.g, .int .i64 s.t] 23)).alloc (.cells #[.int .i64 g.i, .int .i64 g.g, .int .i64 g.t] 23)).alloc (.cells #[.int .i64 t, .int .i64 n] 35)) = Y at X0 B0 B1 B2 ⊢
  generalize w.heap.size + 1 + 1 = ba at B2 ⊢
  generalize w.heap.size + 1 = bg at B1 ⊢
  generalize w.heap.size = bs at B0 ⊢
  have cs0 := cell_at (o := 0) B0.out.1 rfl
  have cs1 := cell_at (o := 1) B0.out.1 rfl
  have cs2 := cell_at (o := 2) B0.out.1 rfl
  have lcs := hp_lt B0.out.1
  have cg0 := cell_at (o := 0) B1.out.1 rfl
  have cg1 := cell_at (o := 1) B1.out.1 rfl
  have cg2 := cell_at (o := 2) B1.out.1 rfl
  have lcg := hp_lt B1.out.1
  have ca0 := cell_at (o := 0) B2.out.1 rfl
  have ca1 := cell_at (o := 1) B2.out.1 rfl
  have lca := hp_lt B2.out.1
  simp only [List.getElem_toArray, List.getElem_cons_zero, List.getElem_cons_succ] at cs0 cs1 cs2 cg0 cg1 cg2 ca0 ca1
  refine wp_region_over (by kernel_rfl) (by kernel_rfl) ?_
  repeat (go_big_quiet_step (fail))
  refine wpQuiet_nil ?_
  intro _ hw'
  obtain ⟨sr, hw''⟩ := hw'
  subst hw''
  go_wp2_with (first
    | (go_at_call 7; refine (hawake_any _).mono ?_; rintro e w' hr; obtain ⟨rfl, s0, rfl⟩ := hr.over; clear hr)
    | (go_at_call 11; refine (rhformed3 _ _ _ _).mono ?_; rintro e w' hr; obtain ⟨rfl, s1, rfl⟩ := hr.over; clear hr))
  go_ret
  exact Ret.mk (ext_over _ X0.out)

set_option maxRecDepth 8000 in
set_option maxHeartbeats 2000000 in
theorem hap_no2 (s g : Hn) (t n : Int) (h1 : hfm3 s.i s.g s.t = true) (h2 : hfm3 g.i g.g g.t = false) (w : World) : Calls Try.prog 6 #[hnV s, hnV g, .agg #[.int .i64 t, .int .i64 n]] w (Ret (.bool true) w) := by
  go_enter Try.func6, Try.ntmps6
  go_wp2
  have X0 := Lib.hid (ext_alloc (.cells #[.int .i64 t, .int .i64 n] 35) (ext_alloc (.cells #[.int .i64 g.i, .int .i64 g.g, .int .i64 g.t] 23) (ext_alloc (.cells #[.int .i64 s.i, .int .i64 s.g, .int .i64 s.t] 23) (ext_refl w))))
  have B0 := Lib.hid (((Made.mk #[.int .i64 s.i, .int .i64 s.g, .int .i64 s.t] 23 (ext_refl w)).alloc (.cells #[.int .i64 g.i, .int .i64 g.g, .int .i64 g.t] 23)).alloc (.cells #[.int .i64 t, .int .i64 n] 35))
  have B1 : Hid (Made w (w.heap.size + 1) #[.int .i64 g.i, .int .i64 g.g, .int .i64 g.t] 23 (((w.alloc (.cells #[.int .i64 s.i, .int .i64 s.g, .int .i64 s.t] 23)).alloc (.cells #[.int .i64 g.i, .int .i64 g.g, .int .i64 g.t] 23)).alloc (.cells #[.int .i64 t, .int .i64 n] 35))) := Lib.hid ((show Made w (w.heap.size + 1) #[.int .i64 g.i, .int .i64 g.g, .int .i64 g.t] 23 ((w.alloc (.cells #[.int .i64 s.i, .int .i64 s.g, .int .i64 s.t] 23)).alloc (.cells #[.int .i64 g.i, .int .i64 g.g, .int .i64 g.t] 23)) from ⟨hp_at _ _ _ (by simp), Nat.le_succ _⟩).alloc (.cells #[.int .i64 t, .int .i64 n] 35))
  have B2 : Hid (Made w (w.heap.size + 1 + 1) #[.int .i64 t, .int .i64 n] 35 (((w.alloc (.cells #[.int .i64 s.i, .int .i64 s.g, .int .i64 s.t] 23)).alloc (.cells #[.int .i64 g.i, .int .i64 g.g, .int .i64 g.t] 23)).alloc (.cells #[.int .i64 t, .int .i64 n] 35))) := Lib.hid ⟨hp_at _ _ _ (by simp), Nat.le_succ_of_le (Nat.le_succ _)⟩
  generalize (((w.alloc (.cells #[.int .i64 s.i, .int .i64 s.g, .int .i64 s.t] 23)).alloc (.cells #[.int .i64 g.i, .int .i64 g.g, .int .i64 g.t] 23)).alloc (.cells #[.int .i64 t, .int .i64 n] 35)) = Y at X0 B0 B1 B2 ⊢
  generalize w.heap.size + 1 + 1 = ba at B2 ⊢
  generalize w.heap.size + 1 = bg at B1 ⊢
  generalize w.heap.size = bs at B0 ⊢
  have cs0 := cell_at (o := 0) B0.out.1 rfl
  have cs1 := cell_at (o := 1) B0.out.1 rfl
  have cs2 := cell_at (o := 2) B0.out.1 rfl
  have lcs := hp_lt B0.out.1
  have cg0 := cell_at (o := 0) B1.out.1 rfl
  have cg1 := cell_at (o := 1) B1.out.1 rfl
  have cg2 := cell_at (o := 2) B1.out.1 rfl
  have lcg := hp_lt B1.out.1
  have ca0 := cell_at (o := 0) B2.out.1 rfl
  have ca1 := cell_at (o := 1) B2.out.1 rfl
  have lca := hp_lt B2.out.1
  simp only [List.getElem_toArray, List.getElem_cons_zero, List.getElem_cons_succ] at cs0 cs1 cs2 cg0 cg1 cg2 ca0 ca1
  refine wp_region_over (by kernel_rfl) (by kernel_rfl) ?_
  repeat (go_big_quiet_step (fail))
  refine wpQuiet_nil ?_
  intro _ hw'
  obtain ⟨sr, hw''⟩ := hw'
  subst hw''
  go_wp2_with (first
    | (go_at_call 7; refine (hawake_any _).mono ?_; rintro e w' hr; obtain ⟨rfl, s0, rfl⟩ := hr.over; clear hr)
    | (go_at_call 11; refine (rhformed3 _ _ _ _).mono ?_; rintro e w' hr; obtain ⟨rfl, s1, rfl⟩ := hr.over; clear hr))
  go_ret
  exact Ret.mk (ext_over _ X0.out)

set_option maxRecDepth 8000 in
set_option maxHeartbeats 2000000 in
theorem hap_a (s g : Hn) (t n : Int) (h1 : hfm3 s.i s.g s.t = true) (h2 : hfm3 g.i g.g g.t = true) (a c : Int) (y1 : hwd3 s.i s.g s.t = a) (y2 : hwd3 g.i g.g g.t = c) (r : Bool) (y3 : (a == c) = r) (hq : ∀ y, (binOp .eql 23 (hnV s) (hnV g)).run Try.prog y = .ok (.bool r) y) (m : Hn) (k1 : (t == s.t) = false) (HM : Hid (∀ y, Calls Try.prog 14 #[.int .u64 a, .int .i64 t, .int .i64 n] y (Ret (.tuple #[hnV m, .bool false]) y))) (w : World) : Calls Try.prog 6 #[hnV s, hnV g, .agg #[.int .i64 t, .int .i64 n]] w (Ret (.bool true) w) := by
  have hg := gdHn
  go_enter Try.func6, Try.ntmps6
  go_wp2
  have X0 := Lib.hid (ext_alloc (.cells #[.int .i64 t, .int .i64 n] 35) (ext_alloc (.cells #[.int .i64 g.i, .int .i64 g.g, .int .i64 g.t] 23) (ext_alloc (.cells #[.int .i64 s.i, .int .i64 s.g, .int .i64 s.t] 23) (ext_refl w))))
  have B0 := Lib.hid (((Made.mk #[.int .i64 s.i, .int .i64 s.g, .int .i64 s.t] 23 (ext_refl w)).alloc (.cells #[.int .i64 g.i, .int .i64 g.g, .int .i64 g.t] 23)).alloc (.cells #[.int .i64 t, .int .i64 n] 35))
  have B1 : Hid (Made w (w.heap.size + 1) #[.int .i64 g.i, .int .i64 g.g, .int .i64 g.t] 23 (((w.alloc (.cells #[.int .i64 s.i, .int .i64 s.g, .int .i64 s.t] 23)).alloc (.cells #[.int .i64 g.i, .int .i64 g.g, .int .i64 g.t] 23)).alloc (.cells #[.int .i64 t, .int .i64 n] 35))) := Lib.hid ((show Made w (w.heap.size + 1) #[.int .i64 g.i, .int .i64 g.g, .int .i64 g.t] 23 ((w.alloc (.cells #[.int .i64 s.i, .int .i64 s.g, .int .i64 s.t] 23)).alloc (.cells #[.int .i64 g.i, .int .i64 g.g, .int .i64 g.t] 23)) from ⟨hp_at _ _ _ (by simp), Nat.le_succ _⟩).alloc (.cells #[.int .i64 t, .int .i64 n] 35))
  have B2 : Hid (Made w (w.heap.size + 1 + 1) #[.int .i64 t, .int .i64 n] 35 (((w.alloc (.cells #[.int .i64 s.i, .int .i64 s.g, .int .i64 s.t] 23)).alloc (.cells #[.int .i64 g.i, .int .i64 g.g, .int .i64 g.t] 23)).alloc (.cells #[.int .i64 t, .int .i64 n] 35))) := Lib.hid ⟨hp_at _ _ _ (by simp), Nat.le_succ_of_le (Nat.le_succ _)⟩
  generalize (((w.alloc (.cells #[.int .i64 s.i, .int .i64 s.g, .int .i64 s.t] 23)).alloc (.cells #[.int .i64 g.i, .int .i64 g.g, .int .i64 g.t] 23)).alloc (.cells #[.int .i64 t, .int .i64 n] 35)) = Y at X0 B0 B1 B2 ⊢
  generalize w.heap.size + 1 + 1 = ba at B2 ⊢
  generalize w.heap.size + 1 = bg at B1 ⊢
  generalize w.heap.size = bs at B0 ⊢
  have cs0 := cell_at (o := 0) B0.out.1 rfl
  have cs1 := cell_at (o := 1) B0.out.1 rfl
  have cs2 := cell_at (o := 2) B0.out.1 rfl
  have lcs := hp_lt B0.out.1
  have cg0 := cell_at (o := 0) B1.out.1 rfl
  have cg1 := cell_at (o := 1) B1.out.1 rfl
  have cg2 := cell_at (o := 2) B1.out.1 rfl
  have lcg := hp_lt B1.out.1
  have ca0 := cell_at (o := 0) B2.out.1 rfl
  have ca1 := cell_at (o := 1) B2.out.1 rfl
  have lca := hp_lt B2.out.1
  simp only [List.getElem_toArray, List.getElem_cons_zero, List.getElem_cons_succ] at cs0 cs1 cs2 cg0 cg1 cg2 ca0 ca1
  refine wp_region_over (by kernel_rfl) (by kernel_rfl) ?_
  repeat (go_big_quiet_step (fail))
  refine wpQuiet_nil ?_
  intro _ hw'
  obtain ⟨sr, hw''⟩ := hw'
  subst hw''
  go_wp2_with (first
    | (go_at_call 7; refine (hawake_any _).mono ?_; rintro e w' hr; obtain ⟨rfl, s0, rfl⟩ := hr.over; clear hr)
    | (go_at_call 11; refine (rhformed3 _ _ _ _).mono ?_; rintro e w' hr; obtain ⟨rfl, s1, rfl⟩ := hr.over; clear hr)
    | (go_at_call 12; refine (hword3 _ _ _ _).mono ?_; rintro e w' hr; obtain ⟨rfl, s2, rfl⟩ := hr.over; clear hr)
    | (go_at_call 14; refine Hid.out ?_))
  refine Lib.hid ?_
  refine (HM.out _).mono ?_
  rintro e w' hr
  obtain ⟨rfl, s3, rfl⟩ := hr.over
  clear hr
  go_wp2
  rename_i sa K hK
  have X1 := Lib.hid (ext_alloc (.cells #[.int .i64 m.i, .int .i64 m.g, .int .i64 m.t] 23) (ext_over (((((sr.comp s0).comp sa).comp s1).comp s2).comp s3) X0.out))
  have D0 := Lib.hid ((B0.out.over (((((sr.comp s0).comp sa).comp s1).comp s2).comp s3)).alloc (.cells #[.int .i64 m.i, .int .i64 m.g, .int .i64 m.t] 23))
  have D1 := Lib.hid ((B1.out.over (((((sr.comp s0).comp sa).comp s1).comp s2).comp s3)).alloc (.cells #[.int .i64 m.i, .int .i64 m.g, .int .i64 m.t] 23))
  generalize ((over Y (((((sr.comp s0).comp sa).comp s1).comp s2).comp s3)).alloc (.cells #[.int .i64 m.i, .int .i64 m.g, .int .i64 m.t] 23)) = Z at X1 D0 D1 ⊢
  generalize (over Y (((((sr.comp s0).comp sa).comp s1).comp s2).comp s3)).heap.size = bm
  clear cs0 cs1 cs2 cg0 cg1 cg2 ca0 ca1 lcs lcg lca X0 B0 B1 B2
  have cs0 := cell_at (o := 0) D0.out.1 rfl
  have cs1 := cell_at (o := 1) D0.out.1 rfl
  have cs2 := cell_at (o := 2) D0.out.1 rfl
  have lcs := hp_lt D0.out.1
  have cg0 := cell_at (o := 0) D1.out.1 rfl
  have cg1 := cell_at (o := 1) D1.out.1 rfl
  have cg2 := cell_at (o := 2) D1.out.1 rfl
  have lcg := hp_lt D1.out.1
  simp only [List.getElem_toArray, List.getElem_cons_zero, List.getElem_cons_succ] at cs0 cs1 cs2 cg0 cg1 cg2
  refine wp_region_over (by kernel_rfl) (by kernel_rfl) ?_
  repeat (go_big_quiet_step ((go_at_call 12; exact over_call (hword3 _ _ _ _))))
  refine wpQuiet_nil ?_
  intro _ hw'
  obtain ⟨s5, hw''⟩ := hw'
  subst hw''
  go_wp2
  go_ret
  exact Ret.mk (ext_over _ X1.out)

set_option maxRecDepth 8000 in
set_option maxHeartbeats 2000000 in
theorem hap_b (s g : Hn) (t n : Int) (h1 : hfm3 s.i s.g s.t = true) (h2 : hfm3 g.i g.g g.t = true) (a c : Int) (y1 : hwd3 s.i s.g s.t = a) (y2 : hwd3 g.i g.g g.t = c) (r : Bool) (y3 : (a == c) = r) (hq : ∀ y, (binOp .eql 23 (hnV s) (hnV g)).run Try.prog y = .ok (.bool r) y) (m : Hn) (k1 : (t == s.t) = true) (k2 : decide (s.i < n) = false) (HM : Hid (∀ y, Calls Try.prog 14 #[.int .u64 a, .int .i64 t, .int .i64 n] y (Ret (.tuple #[hnV m, .bool false]) y))) (w : World) : Calls Try.prog 6 #[hnV s, hnV g, .agg #[.int .i64 t, .int .i64 n]] w (Ret (.bool true) w) := by
  have hg := gdHn
  go_enter Try.func6, Try.ntmps6
  go_wp2
  have X0 := Lib.hid (ext_alloc (.cells #[.int .i64 t, .int .i64 n] 35) (ext_alloc (.cells #[.int .i64 g.i, .int .i64 g.g, .int .i64 g.t] 23) (ext_alloc (.cells #[.int .i64 s.i, .int .i64 s.g, .int .i64 s.t] 23) (ext_refl w))))
  have B0 := Lib.hid (((Made.mk #[.int .i64 s.i, .int .i64 s.g, .int .i64 s.t] 23 (ext_refl w)).alloc (.cells #[.int .i64 g.i, .int .i64 g.g, .int .i64 g.t] 23)).alloc (.cells #[.int .i64 t, .int .i64 n] 35))
  have B1 : Hid (Made w (w.heap.size + 1) #[.int .i64 g.i, .int .i64 g.g, .int .i64 g.t] 23 (((w.alloc (.cells #[.int .i64 s.i, .int .i64 s.g, .int .i64 s.t] 23)).alloc (.cells #[.int .i64 g.i, .int .i64 g.g, .int .i64 g.t] 23)).alloc (.cells #[.int .i64 t, .int .i64 n] 35))) := Lib.hid ((show Made w (w.heap.size + 1) #[.int .i64 g.i, .int .i64 g.g, .int .i64 g.t] 23 ((w.alloc (.cells #[.int .i64 s.i, .int .i64 s.g, .int .i64 s.t] 23)).alloc (.cells #[.int .i64 g.i, .int .i64 g.g, .int .i64 g.t] 23)) from ⟨hp_at _ _ _ (by simp), Nat.le_succ _⟩).alloc (.cells #[.int .i64 t, .int .i64 n] 35))
  have B2 : Hid (Made w (w.heap.size + 1 + 1) #[.int .i64 t, .int .i64 n] 35 (((w.alloc (.cells #[.int .i64 s.i, .int .i64 s.g, .int .i64 s.t] 23)).alloc (.cells #[.int .i64 g.i, .int .i64 g.g, .int .i64 g.t] 23)).alloc (.cells #[.int .i64 t, .int .i64 n] 35))) := Lib.hid ⟨hp_at _ _ _ (by simp), Nat.le_succ_of_le (Nat.le_succ _)⟩
  generalize (((w.alloc (.cells #[.int .i64 s.i, .int .i64 s.g, .int .i64 s.t] 23)).alloc (.cells #[.int .i64 g.i, .int .i64 g.g, .int .i64 g.t] 23)).alloc (.cells #[.int .i64 t, .int .i64 n] 35)) = Y at X0 B0 B1 B2 ⊢
  generalize w.heap.size + 1 + 1 = ba at B2 ⊢
  generalize w.heap.size + 1 = bg at B1 ⊢
  generalize w.heap.size = bs at B0 ⊢
  have cs0 := cell_at (o := 0) B0.out.1 rfl
  have cs1 := cell_at (o := 1) B0.out.1 rfl
  have cs2 := cell_at (o := 2) B0.out.1 rfl
  have lcs := hp_lt B0.out.1
  have cg0 := cell_at (o := 0) B1.out.1 rfl
  have cg1 := cell_at (o := 1) B1.out.1 rfl
  have cg2 := cell_at (o := 2) B1.out.1 rfl
  have lcg := hp_lt B1.out.1
  have ca0 := cell_at (o := 0) B2.out.1 rfl
  have ca1 := cell_at (o := 1) B2.out.1 rfl
  have lca := hp_lt B2.out.1
  simp only [List.getElem_toArray, List.getElem_cons_zero, List.getElem_cons_succ] at cs0 cs1 cs2 cg0 cg1 cg2 ca0 ca1
  refine wp_region_over (by kernel_rfl) (by kernel_rfl) ?_
  repeat (go_big_quiet_step (fail))
  refine wpQuiet_nil ?_
  intro _ hw'
  obtain ⟨sr, hw''⟩ := hw'
  subst hw''
  go_wp2_with (first
    | (go_at_call 7; refine (hawake_any _).mono ?_; rintro e w' hr; obtain ⟨rfl, s0, rfl⟩ := hr.over; clear hr)
    | (go_at_call 11; refine (rhformed3 _ _ _ _).mono ?_; rintro e w' hr; obtain ⟨rfl, s1, rfl⟩ := hr.over; clear hr)
    | (go_at_call 12; refine (hword3 _ _ _ _).mono ?_; rintro e w' hr; obtain ⟨rfl, s2, rfl⟩ := hr.over; clear hr)
    | (go_at_call 14; refine Hid.out ?_))
  refine Lib.hid ?_
  refine (HM.out _).mono ?_
  rintro e w' hr
  obtain ⟨rfl, s3, rfl⟩ := hr.over
  clear hr
  go_wp2
  rename_i sa K hK
  have X1 := Lib.hid (ext_alloc (.cells #[.int .i64 m.i, .int .i64 m.g, .int .i64 m.t] 23) (ext_over (((((sr.comp s0).comp sa).comp s1).comp s2).comp s3) X0.out))
  have D0 := Lib.hid ((B0.out.over (((((sr.comp s0).comp sa).comp s1).comp s2).comp s3)).alloc (.cells #[.int .i64 m.i, .int .i64 m.g, .int .i64 m.t] 23))
  have D1 := Lib.hid ((B1.out.over (((((sr.comp s0).comp sa).comp s1).comp s2).comp s3)).alloc (.cells #[.int .i64 m.i, .int .i64 m.g, .int .i64 m.t] 23))
  generalize ((over Y (((((sr.comp s0).comp sa).comp s1).comp s2).comp s3)).alloc (.cells #[.int .i64 m.i, .int .i64 m.g, .int .i64 m.t] 23)) = Z at X1 D0 D1 ⊢
  generalize (over Y (((((sr.comp s0).comp sa).comp s1).comp s2).comp s3)).heap.size = bm
  clear cs0 cs1 cs2 cg0 cg1 cg2 ca0 ca1 lcs lcg lca X0 B0 B1 B2
  have cs0 := cell_at (o := 0) D0.out.1 rfl
  have cs1 := cell_at (o := 1) D0.out.1 rfl
  have cs2 := cell_at (o := 2) D0.out.1 rfl
  have lcs := hp_lt D0.out.1
  have cg0 := cell_at (o := 0) D1.out.1 rfl
  have cg1 := cell_at (o := 1) D1.out.1 rfl
  have cg2 := cell_at (o := 2) D1.out.1 rfl
  have lcg := hp_lt D1.out.1
  simp only [List.getElem_toArray, List.getElem_cons_zero, List.getElem_cons_succ] at cs0 cs1 cs2 cg0 cg1 cg2
  refine wp_region_over (by kernel_rfl) (by kernel_rfl) ?_
  repeat (go_big_quiet_step ((go_at_call 12; exact over_call (hword3 _ _ _ _))))
  refine wpQuiet_nil ?_
  intro _ hw'
  obtain ⟨s5, hw''⟩ := hw'
  subst hw''
  go_wp2
  go_ret
  exact Ret.mk (ext_over _ X1.out)

set_option maxRecDepth 8000 in
set_option maxHeartbeats 2000000 in
theorem hap_c (s g : Hn) (t n : Int) (h1 : hfm3 s.i s.g s.t = true) (h2 : hfm3 g.i g.g g.t = true) (a c : Int) (y1 : hwd3 s.i s.g s.t = a) (y2 : hwd3 g.i g.g g.t = c) (r : Bool) (y3 : (a == c) = r) (hq : ∀ y, (binOp .eql 23 (hnV s) (hnV g)).run Try.prog y = .ok (.bool r) y) (m : Hn) (k1 : (t == s.t) = true) (k2 : s.i < n) (HM : Hid (∀ y, Calls Try.prog 14 #[.int .u64 a, .int .i64 t, .int .i64 n] y (Ret (.tuple #[hnV m, .bool true]) y))) (w : World) : Calls Try.prog 6 #[hnV s, hnV g, .agg #[.int .i64 t, .int .i64 n]] w (Ret (.bool true) w) := by
  have hg := gdHn
  go_enter Try.func6, Try.ntmps6
  go_wp2
  have X0 := Lib.hid (ext_alloc (.cells #[.int .i64 t, .int .i64 n] 35) (ext_alloc (.cells #[.int .i64 g.i, .int .i64 g.g, .int .i64 g.t] 23) (ext_alloc (.cells #[.int .i64 s.i, .int .i64 s.g, .int .i64 s.t] 23) (ext_refl w))))
  have B0 := Lib.hid (((Made.mk #[.int .i64 s.i, .int .i64 s.g, .int .i64 s.t] 23 (ext_refl w)).alloc (.cells #[.int .i64 g.i, .int .i64 g.g, .int .i64 g.t] 23)).alloc (.cells #[.int .i64 t, .int .i64 n] 35))
  have B1 : Hid (Made w (w.heap.size + 1) #[.int .i64 g.i, .int .i64 g.g, .int .i64 g.t] 23 (((w.alloc (.cells #[.int .i64 s.i, .int .i64 s.g, .int .i64 s.t] 23)).alloc (.cells #[.int .i64 g.i, .int .i64 g.g, .int .i64 g.t] 23)).alloc (.cells #[.int .i64 t, .int .i64 n] 35))) := Lib.hid ((show Made w (w.heap.size + 1) #[.int .i64 g.i, .int .i64 g.g, .int .i64 g.t] 23 ((w.alloc (.cells #[.int .i64 s.i, .int .i64 s.g, .int .i64 s.t] 23)).alloc (.cells #[.int .i64 g.i, .int .i64 g.g, .int .i64 g.t] 23)) from ⟨hp_at _ _ _ (by simp), Nat.le_succ _⟩).alloc (.cells #[.int .i64 t, .int .i64 n] 35))
  have B2 : Hid (Made w (w.heap.size + 1 + 1) #[.int .i64 t, .int .i64 n] 35 (((w.alloc (.cells #[.int .i64 s.i, .int .i64 s.g, .int .i64 s.t] 23)).alloc (.cells #[.int .i64 g.i, .int .i64 g.g, .int .i64 g.t] 23)).alloc (.cells #[.int .i64 t, .int .i64 n] 35))) := Lib.hid ⟨hp_at _ _ _ (by simp), Nat.le_succ_of_le (Nat.le_succ _)⟩
  generalize (((w.alloc (.cells #[.int .i64 s.i, .int .i64 s.g, .int .i64 s.t] 23)).alloc (.cells #[.int .i64 g.i, .int .i64 g.g, .int .i64 g.t] 23)).alloc (.cells #[.int .i64 t, .int .i64 n] 35)) = Y at X0 B0 B1 B2 ⊢
  generalize w.heap.size + 1 + 1 = ba at B2 ⊢
  generalize w.heap.size + 1 = bg at B1 ⊢
  generalize w.heap.size = bs at B0 ⊢
  have cs0 := cell_at (o := 0) B0.out.1 rfl
  have cs1 := cell_at (o := 1) B0.out.1 rfl
  have cs2 := cell_at (o := 2) B0.out.1 rfl
  have lcs := hp_lt B0.out.1
  have cg0 := cell_at (o := 0) B1.out.1 rfl
  have cg1 := cell_at (o := 1) B1.out.1 rfl
  have cg2 := cell_at (o := 2) B1.out.1 rfl
  have lcg := hp_lt B1.out.1
  have ca0 := cell_at (o := 0) B2.out.1 rfl
  have ca1 := cell_at (o := 1) B2.out.1 rfl
  have lca := hp_lt B2.out.1
  simp only [List.getElem_toArray, List.getElem_cons_zero, List.getElem_cons_succ] at cs0 cs1 cs2 cg0 cg1 cg2 ca0 ca1
  refine wp_region_over (by kernel_rfl) (by kernel_rfl) ?_
  repeat (go_big_quiet_step (fail))
  refine wpQuiet_nil ?_
  intro _ hw'
  obtain ⟨sr, hw''⟩ := hw'
  subst hw''
  go_wp2_with (first
    | (go_at_call 7; refine (hawake_any _).mono ?_; rintro e w' hr; obtain ⟨rfl, s0, rfl⟩ := hr.over; clear hr)
    | (go_at_call 11; refine (rhformed3 _ _ _ _).mono ?_; rintro e w' hr; obtain ⟨rfl, s1, rfl⟩ := hr.over; clear hr)
    | (go_at_call 12; refine (hword3 _ _ _ _).mono ?_; rintro e w' hr; obtain ⟨rfl, s2, rfl⟩ := hr.over; clear hr)
    | (go_at_call 14; refine Hid.out ?_))
  refine Lib.hid ?_
  refine (HM.out _).mono ?_
  rintro e w' hr
  obtain ⟨rfl, s3, rfl⟩ := hr.over
  clear hr
  go_wp2
  rename_i sa K hK
  have X1 := Lib.hid (ext_alloc (.cells #[.int .i64 m.i, .int .i64 m.g, .int .i64 m.t] 23) (ext_over (((((sr.comp s0).comp sa).comp s1).comp s2).comp s3) X0.out))
  have D0 := Lib.hid ((B0.out.over (((((sr.comp s0).comp sa).comp s1).comp s2).comp s3)).alloc (.cells #[.int .i64 m.i, .int .i64 m.g, .int .i64 m.t] 23))
  have D1 := Lib.hid ((B1.out.over (((((sr.comp s0).comp sa).comp s1).comp s2).comp s3)).alloc (.cells #[.int .i64 m.i, .int .i64 m.g, .int .i64 m.t] 23))
  generalize ((over Y (((((sr.comp s0).comp sa).comp s1).comp s2).comp s3)).alloc (.cells #[.int .i64 m.i, .int .i64 m.g, .int .i64 m.t] 23)) = Z at X1 D0 D1 ⊢
  generalize (over Y (((((sr.comp s0).comp sa).comp s1).comp s2).comp s3)).heap.size = bm
  clear cs0 cs1 cs2 cg0 cg1 cg2 ca0 ca1 lcs lcg lca X0 B0 B1 B2
  have cs0 := cell_at (o := 0) D0.out.1 rfl
  have cs1 := cell_at (o := 1) D0.out.1 rfl
  have cs2 := cell_at (o := 2) D0.out.1 rfl
  have lcs := hp_lt D0.out.1
  have cg0 := cell_at (o := 0) D1.out.1 rfl
  have cg1 := cell_at (o := 1) D1.out.1 rfl
  have cg2 := cell_at (o := 2) D1.out.1 rfl
  have lcg := hp_lt D1.out.1
  simp only [List.getElem_toArray, List.getElem_cons_zero, List.getElem_cons_succ] at cs0 cs1 cs2 cg0 cg1 cg2
  refine wp_region_over (by kernel_rfl) (by kernel_rfl) ?_
  repeat (go_big_quiet_step ((go_at_call 12; exact over_call (hword3 _ _ _ _))))
  refine wpQuiet_nil ?_
  intro _ hw'
  obtain ⟨s5, hw''⟩ := hw'
  subst hw''
  go_wp2
  go_ret
  exact Ret.mk (ext_over _ X1.out)

theorem handleApart_any (s g : Hn) (t n : Int) (w : World) : Calls Try.prog 6 #[hnV s, hnV g, .agg #[.int .i64 t, .int .i64 n]] w (Ret (.bool true) w) := by
  by_cases h1 : s.ok
  · by_cases h2 : g.ok
    · have e : (hwd3 s.i s.g s.t == hwd3 g.i g.g g.t) = decide (s = g) := by
        rw [hwd3_is, hwd3_is]
        by_cases e : s = g
        · rw [decide_eq_true e, e]
          exact beq_self_eq_true _
        · rw [decide_eq_false e]
          exact beq_false_of_ne fun hh => e (hword_inj h1 h2 (U_inj hh))
      have hm := isMine_word s h1 t n
      have HM : ∀ d, decide (isMine s.word t n) = d → Hid (∀ y, Calls Try.prog 14 #[.int .u64 (hwd3 s.i s.g s.t), .int .i64 t, .int .i64 n] y (Ret (.tuple #[hnV (mineH s.word t n), .bool d]) y)) := fun d hd => Lib.hid fun y => by
        rw [hwd3_is, ← hd]
        exact mine_any s.word t n y
      by_cases c1 : t = s.t
      · by_cases c2 : s.i < n
        · exact hap_c s g t n (hfm3_yes h1) (hfm3_yes h2) _ _ rfl rfl _ e (fun y => eqHn s g y) _ (beq_iff_eq.2 c1) c2 (HM _ (decide_eq_true (hm.2 ⟨c1, c2⟩))) w
        · exact hap_b s g t n (hfm3_yes h1) (hfm3_yes h2) _ _ rfl rfl _ e (fun y => eqHn s g y) _ (beq_iff_eq.2 c1) (decide_eq_false c2) (HM _ (decide_eq_false fun k => c2 (hm.1 k).2)) w
      · exact hap_a s g t n (hfm3_yes h1) (hfm3_yes h2) _ _ rfl rfl _ e (fun y => eqHn s g y) _ (beq_false_of_ne c1) (HM _ (decide_eq_false fun k => c1 (hm.1 k).1)) w
    · exact hap_no2 s g t n (hfm3_yes h1) (hfm3_no h2) w
  · exact hap_no1 s g t n (hfm3_no h1) w

end Go.Proofs.Ytniejbncahmcoaa
