/-
  What the call of Mine, and the reference's, come to. Conditions: those of each theorem.
-/
import Derived.Test.YtniejbncahmcoaaHandleRef
namespace Go.Proofs.Ytniejbncahmcoaa
open Go Go.RowKit

theorem mineH_no (x : BitVec 64) (t n : Int) (h : ¬ isMine x t n) : mineH x t n = ⟨0, 0, 0⟩ := by unfold mineH; rw [if_neg h]
theorem mineH_yes (x : BitVec 64) (t n : Int) (h : isMine x t n) : mineH x t n = hnN x := by unfold mineH; rw [if_pos h]

theorem hof_is (x : BitVec 64) (s : Hn) (r : Bool) (h : Hid (ofH x = s ∧ decide (isH x) = r)) (w : World) : Calls Try.prog 8 #[.int .u64 (U x)] w (Ret (.tuple #[hnV s, .bool r]) w) := by
  rw [← h.out.1, ← h.out.2]
  exact hof_any x w

set_option maxRecDepth 8000 in
set_option maxHeartbeats 1000000 in
theorem mine_none (x : BitVec 64) (s : Hn) (t n : Int) (HO : Hid (ofH x = s ∧ decide (isH x) = false)) (w : World) : Calls Try.prog 14 #[.int .u64 (U x), .int .i64 t, .int .i64 n] w (Ret (.tuple #[hnV ⟨0, 0, 0⟩, .bool false]) w) := by
  go_enter Try.func14, Try.ntmps14
  go_wp2_with (go_at_call 8; refine (hof_is x s false HO _).mono ?_; rintro e w' hr; obtain ⟨rfl, s1, rfl⟩ := hr.over; clear hr)
  have HE9 := Lib.hid (ext_alloc (.cells #[.int .i64 s.i, .int .i64 s.g, .int .i64 s.t] 23) (ext_set (p := ⟨w.heap.size, 2, none⟩) (.int .i64 0) (Nat.le_refl _) (ext_set (p := ⟨w.heap.size, 1, none⟩) (.int .i64 0) (Nat.le_refl _) (ext_set (p := ⟨w.heap.size, 0, none⟩) (.int .i64 0) (Nat.le_refl _) (ext_over s1 (ext_alloc (.cells #[.int .i64 0, .int .i64 0, .int .i64 0] 23) (ext_refl w)))))))
  have HR9 : Hid (Made w w.heap.size #[.int .i64 0, .int .i64 0, .int .i64 0] 23 (((((over (w.alloc (.cells #[.int .i64 0, .int .i64 0, .int .i64 0] 23)) s1).setCell ⟨w.heap.size, 0, none⟩ (.int .i64 0)).setCell ⟨w.heap.size, 1, none⟩ (.int .i64 0)).setCell ⟨w.heap.size, 2, none⟩ (.int .i64 0)).alloc (.cells #[.int .i64 s.i, .int .i64 s.g, .int .i64 s.t] 23))) := Lib.hid ((((((Made.mk #[.int .i64 0, .int .i64 0, .int .i64 0] 23 (ext_refl w)).over s1).set 0 (.int .i64 0)).set 1 (.int .i64 0)).set 2 (.int .i64 0)).alloc (.cells #[.int .i64 s.i, .int .i64 s.g, .int .i64 s.t] 23))
  generalize (((((over (w.alloc (.cells #[.int .i64 0, .int .i64 0, .int .i64 0] 23)) s1).setCell ⟨w.heap.size, 0, none⟩ (.int .i64 0)).setCell ⟨w.heap.size, 1, none⟩ (.int .i64 0)).setCell ⟨w.heap.size, 2, none⟩ (.int .i64 0)).alloc (.cells #[.int .i64 s.i, .int .i64 s.g, .int .i64 s.t] 23)) = Z9 at HE9 HR9 ⊢
  have z0 := cell_at (o := 0) HR9.out.1 rfl
  have z1 := cell_at (o := 1) HR9.out.1 rfl
  have z2 := cell_at (o := 2) HR9.out.1 rfl
  simp only [List.getElem_toArray, List.getElem_cons_zero, List.getElem_cons_succ] at z0 z1 z2
  exact bodyPost_ret (v := .tuple #[hnV ⟨0, 0, 0⟩, .bool false]) (by simp [results, Try.results14, go_sem, z0, z1, z2]) rfl (Ret.mk HE9.out)

set_option maxRecDepth 8000 in
set_option maxHeartbeats 1000000 in
theorem mine_other (x : BitVec 64) (s : Hn) (t n : Int) (HO : Hid (ofH x = s ∧ decide (isH x) = true)) (k1 : (s.t != t) = true) (w : World) : Calls Try.prog 14 #[.int .u64 (U x), .int .i64 t, .int .i64 n] w (Ret (.tuple #[hnV ⟨0, 0, 0⟩, .bool false]) w) := by
  go_enter Try.func14, Try.ntmps14
  go_wp2_with (go_at_call 8; refine (hof_is x s true HO _).mono ?_; rintro e w' hr; obtain ⟨rfl, s1, rfl⟩ := hr.over; clear hr)
  have HE9 := Lib.hid (ext_alloc (.cells #[.int .i64 s.i, .int .i64 s.g, .int .i64 s.t] 23) (ext_set (p := ⟨w.heap.size, 2, none⟩) (.int .i64 0) (Nat.le_refl _) (ext_set (p := ⟨w.heap.size, 1, none⟩) (.int .i64 0) (Nat.le_refl _) (ext_set (p := ⟨w.heap.size, 0, none⟩) (.int .i64 0) (Nat.le_refl _) (ext_over s1 (ext_alloc (.cells #[.int .i64 0, .int .i64 0, .int .i64 0] 23) (ext_refl w)))))))
  have HR9 : Hid (Made w w.heap.size #[.int .i64 0, .int .i64 0, .int .i64 0] 23 (((((over (w.alloc (.cells #[.int .i64 0, .int .i64 0, .int .i64 0] 23)) s1).setCell ⟨w.heap.size, 0, none⟩ (.int .i64 0)).setCell ⟨w.heap.size, 1, none⟩ (.int .i64 0)).setCell ⟨w.heap.size, 2, none⟩ (.int .i64 0)).alloc (.cells #[.int .i64 s.i, .int .i64 s.g, .int .i64 s.t] 23))) := Lib.hid ((((((Made.mk #[.int .i64 0, .int .i64 0, .int .i64 0] 23 (ext_refl w)).over s1).set 0 (.int .i64 0)).set 1 (.int .i64 0)).set 2 (.int .i64 0)).alloc (.cells #[.int .i64 s.i, .int .i64 s.g, .int .i64 s.t] 23))
  generalize (((((over (w.alloc (.cells #[.int .i64 0, .int .i64 0, .int .i64 0] 23)) s1).setCell ⟨w.heap.size, 0, none⟩ (.int .i64 0)).setCell ⟨w.heap.size, 1, none⟩ (.int .i64 0)).setCell ⟨w.heap.size, 2, none⟩ (.int .i64 0)).alloc (.cells #[.int .i64 s.i, .int .i64 s.g, .int .i64 s.t] 23)) = Z9 at HE9 HR9 ⊢
  have z0 := cell_at (o := 0) HR9.out.1 rfl
  have z1 := cell_at (o := 1) HR9.out.1 rfl
  have z2 := cell_at (o := 2) HR9.out.1 rfl
  simp only [List.getElem_toArray, List.getElem_cons_zero, List.getElem_cons_succ] at z0 z1 z2
  exact bodyPost_ret (v := .tuple #[hnV ⟨0, 0, 0⟩, .bool false]) (by simp [results, Try.results14, go_sem, z0, z1, z2]) rfl (Ret.mk HE9.out)

set_option maxRecDepth 8000 in
set_option maxHeartbeats 1000000 in
theorem mine_far (x : BitVec 64) (s : Hn) (t n : Int) (HO : Hid (ofH x = s ∧ decide (isH x) = true)) (k1 : (s.t != t) = false) (k2 : n ≤ s.i) (w : World) : Calls Try.prog 14 #[.int .u64 (U x), .int .i64 t, .int .i64 n] w (Ret (.tuple #[hnV ⟨0, 0, 0⟩, .bool false]) w) := by
  go_enter Try.func14, Try.ntmps14
  go_wp2_with (go_at_call 8; refine (hof_is x s true HO _).mono ?_; rintro e w' hr; obtain ⟨rfl, s1, rfl⟩ := hr.over; clear hr)
  have HE9 := Lib.hid (ext_alloc (.cells #[.int .i64 s.i, .int .i64 s.g, .int .i64 s.t] 23) (ext_set (p := ⟨w.heap.size, 2, none⟩) (.int .i64 0) (Nat.le_refl _) (ext_set (p := ⟨w.heap.size, 1, none⟩) (.int .i64 0) (Nat.le_refl _) (ext_set (p := ⟨w.heap.size, 0, none⟩) (.int .i64 0) (Nat.le_refl _) (ext_over s1 (ext_alloc (.cells #[.int .i64 0, .int .i64 0, .int .i64 0] 23) (ext_refl w)))))))
  have HR9 : Hid (Made w w.heap.size #[.int .i64 0, .int .i64 0, .int .i64 0] 23 (((((over (w.alloc (.cells #[.int .i64 0, .int .i64 0, .int .i64 0] 23)) s1).setCell ⟨w.heap.size, 0, none⟩ (.int .i64 0)).setCell ⟨w.heap.size, 1, none⟩ (.int .i64 0)).setCell ⟨w.heap.size, 2, none⟩ (.int .i64 0)).alloc (.cells #[.int .i64 s.i, .int .i64 s.g, .int .i64 s.t] 23))) := Lib.hid ((((((Made.mk #[.int .i64 0, .int .i64 0, .int .i64 0] 23 (ext_refl w)).over s1).set 0 (.int .i64 0)).set 1 (.int .i64 0)).set 2 (.int .i64 0)).alloc (.cells #[.int .i64 s.i, .int .i64 s.g, .int .i64 s.t] 23))
  generalize (((((over (w.alloc (.cells #[.int .i64 0, .int .i64 0, .int .i64 0] 23)) s1).setCell ⟨w.heap.size, 0, none⟩ (.int .i64 0)).setCell ⟨w.heap.size, 1, none⟩ (.int .i64 0)).setCell ⟨w.heap.size, 2, none⟩ (.int .i64 0)).alloc (.cells #[.int .i64 s.i, .int .i64 s.g, .int .i64 s.t] 23)) = Z9 at HE9 HR9 ⊢
  have z0 := cell_at (o := 0) HR9.out.1 rfl
  have z1 := cell_at (o := 1) HR9.out.1 rfl
  have z2 := cell_at (o := 2) HR9.out.1 rfl
  simp only [List.getElem_toArray, List.getElem_cons_zero, List.getElem_cons_succ] at z0 z1 z2
  exact bodyPost_ret (v := .tuple #[hnV ⟨0, 0, 0⟩, .bool false]) (by simp [results, Try.results14, go_sem, z0, z1, z2]) rfl (Ret.mk HE9.out)

set_option maxRecDepth 8000 in
set_option maxHeartbeats 1000000 in
theorem mine_yes (x : BitVec 64) (s : Hn) (t n : Int) (HO : Hid (ofH x = s ∧ decide (isH x) = true)) (k1 : (s.t != t) = false) (k2 : decide (n ≤ s.i) = false) (w : World) : Calls Try.prog 14 #[.int .u64 (U x), .int .i64 t, .int .i64 n] w (Ret (.tuple #[hnV s, .bool true]) w) := by
  go_enter Try.func14, Try.ntmps14
  go_wp2_with (go_at_call 8; refine (hof_is x s true HO _).mono ?_; rintro e w' hr; obtain ⟨rfl, s1, rfl⟩ := hr.over; clear hr)
  have HE9 := Lib.hid (ext_alloc (.cells #[.int .i64 s.i, .int .i64 s.g, .int .i64 s.t] 23) (ext_set (p := ⟨w.heap.size, 2, none⟩) (.int .i64 s.t) (Nat.le_refl _) (ext_set (p := ⟨w.heap.size, 1, none⟩) (.int .i64 s.g) (Nat.le_refl _) (ext_set (p := ⟨w.heap.size, 0, none⟩) (.int .i64 s.i) (Nat.le_refl _) (ext_over s1 (ext_alloc (.cells #[.int .i64 0, .int .i64 0, .int .i64 0] 23) (ext_refl w)))))))
  have HR9 : Hid (Made w w.heap.size #[.int .i64 s.i, .int .i64 s.g, .int .i64 s.t] 23 (((((over (w.alloc (.cells #[.int .i64 0, .int .i64 0, .int .i64 0] 23)) s1).setCell ⟨w.heap.size, 0, none⟩ (.int .i64 s.i)).setCell ⟨w.heap.size, 1, none⟩ (.int .i64 s.g)).setCell ⟨w.heap.size, 2, none⟩ (.int .i64 s.t)).alloc (.cells #[.int .i64 s.i, .int .i64 s.g, .int .i64 s.t] 23))) := Lib.hid ((((((Made.mk #[.int .i64 0, .int .i64 0, .int .i64 0] 23 (ext_refl w)).over s1).set 0 (.int .i64 s.i)).set 1 (.int .i64 s.g)).set 2 (.int .i64 s.t)).alloc (.cells #[.int .i64 s.i, .int .i64 s.g, .int .i64 s.t] 23))
  generalize (((((over (w.alloc (.cells #[.int .i64 0, .int .i64 0, .int .i64 0] 23)) s1).setCell ⟨w.heap.size, 0, none⟩ (.int .i64 s.i)).setCell ⟨w.heap.size, 1, none⟩ (.int .i64 s.g)).setCell ⟨w.heap.size, 2, none⟩ (.int .i64 s.t)).alloc (.cells #[.int .i64 s.i, .int .i64 s.g, .int .i64 s.t] 23)) = Z9 at HE9 HR9 ⊢
  have z0 := cell_at (o := 0) HR9.out.1 rfl
  have z1 := cell_at (o := 1) HR9.out.1 rfl
  have z2 := cell_at (o := 2) HR9.out.1 rfl
  simp only [List.getElem_toArray, List.getElem_cons_zero, List.getElem_cons_succ] at z0 z1 z2
  exact bodyPost_ret (v := .tuple #[hnV s, .bool true]) (by simp [results, Try.results14, go_sem, z0, z1, z2]) rfl (Ret.mk HE9.out)

theorem mine_any (x : BitVec 64) (t n : Int) (w : World) : Calls Try.prog 14 #[.int .u64 (U x), .int .i64 t, .int .i64 n] w (Ret (.tuple #[hnV (mineH x t n), .bool (decide (isMine x t n))]) w) := by
  by_cases h : isH x
  · have e := ofH_yes x h
    by_cases c1 : (hnN x).t = t
    · by_cases c2 : (hnN x).i < n
      · have hm : isMine x t n := ⟨h, c1, c2⟩
        rw [mineH_yes x t n hm, decide_eq_true hm]
        exact mine_yes x _ t n (Lib.hid ⟨e, decide_eq_true h⟩) (bne_eq_false_iff_eq.2 c1) (decide_eq_false (by omega)) w
      · have hm : ¬ isMine x t n := fun k => c2 k.2.2
        rw [mineH_no x t n hm, decide_eq_false hm]
        exact mine_far x _ t n (Lib.hid ⟨e, decide_eq_true h⟩) (bne_eq_false_iff_eq.2 c1) (by omega) w
    · have hm : ¬ isMine x t n := fun k => c1 k.2.1
      rw [mineH_no x t n hm, decide_eq_false hm]
      exact mine_other x _ t n (Lib.hid ⟨e, decide_eq_true h⟩) (bne_iff_ne.2 c1) w
  · have hm : ¬ isMine x t n := fun k => h k.1
    rw [mineH_no x t n hm, decide_eq_false hm]
    exact mine_none x _ t n (Lib.hid ⟨rfl, decide_eq_false h⟩) w

theorem rhof_is (x : BitVec 64) (s : Hn) (r : Bool) (h : Hid (ofH x = s ∧ decide (isH x) = r)) (w : World) : Calls Try.prog 9 #[.int .u64 (U x)] w (Ret (.tuple #[hnV s, .bool r]) w) := by
  rw [← h.out.1, ← h.out.2]
  exact rhof_any x w

set_option maxRecDepth 8000 in
set_option maxHeartbeats 1000000 in
theorem rmine_none (x : BitVec 64) (s : Hn) (t n : Int) (HO : Hid (ofH x = s ∧ decide (isH x) = false)) (w : World) : Calls Try.prog 15 #[.int .u64 (U x), .int .i64 t, .int .i64 n] w (Ret (.tuple #[hnV ⟨0, 0, 0⟩, .bool false]) w) := by
  go_enter Try.func15, Try.ntmps15
  go_wp2_with (go_at_call 9; refine (rhof_is x s false HO _).mono ?_; rintro e w' hr; obtain ⟨rfl, s1, rfl⟩ := hr.over; clear hr)
  have HE9 := Lib.hid (ext_alloc (.cells #[.int .i64 s.i, .int .i64 s.g, .int .i64 s.t] 23) (ext_set (p := ⟨w.heap.size, 2, none⟩) (.int .i64 0) (Nat.le_refl _) (ext_set (p := ⟨w.heap.size, 1, none⟩) (.int .i64 0) (Nat.le_refl _) (ext_set (p := ⟨w.heap.size, 0, none⟩) (.int .i64 0) (Nat.le_refl _) (ext_over s1 (ext_alloc (.cells #[.int .i64 0, .int .i64 0, .int .i64 0] 23) (ext_refl w)))))))
  have HR9 : Hid (Made w w.heap.size #[.int .i64 0, .int .i64 0, .int .i64 0] 23 (((((over (w.alloc (.cells #[.int .i64 0, .int .i64 0, .int .i64 0] 23)) s1).setCell ⟨w.heap.size, 0, none⟩ (.int .i64 0)).setCell ⟨w.heap.size, 1, none⟩ (.int .i64 0)).setCell ⟨w.heap.size, 2, none⟩ (.int .i64 0)).alloc (.cells #[.int .i64 s.i, .int .i64 s.g, .int .i64 s.t] 23))) := Lib.hid ((((((Made.mk #[.int .i64 0, .int .i64 0, .int .i64 0] 23 (ext_refl w)).over s1).set 0 (.int .i64 0)).set 1 (.int .i64 0)).set 2 (.int .i64 0)).alloc (.cells #[.int .i64 s.i, .int .i64 s.g, .int .i64 s.t] 23))
  generalize (((((over (w.alloc (.cells #[.int .i64 0, .int .i64 0, .int .i64 0] 23)) s1).setCell ⟨w.heap.size, 0, none⟩ (.int .i64 0)).setCell ⟨w.heap.size, 1, none⟩ (.int .i64 0)).setCell ⟨w.heap.size, 2, none⟩ (.int .i64 0)).alloc (.cells #[.int .i64 s.i, .int .i64 s.g, .int .i64 s.t] 23)) = Z9 at HE9 HR9 ⊢
  have z0 := cell_at (o := 0) HR9.out.1 rfl
  have z1 := cell_at (o := 1) HR9.out.1 rfl
  have z2 := cell_at (o := 2) HR9.out.1 rfl
  simp only [List.getElem_toArray, List.getElem_cons_zero, List.getElem_cons_succ] at z0 z1 z2
  exact bodyPost_ret (v := .tuple #[hnV ⟨0, 0, 0⟩, .bool false]) (by simp [results, Try.results15, go_sem, z0, z1, z2]) rfl (Ret.mk HE9.out)

set_option maxRecDepth 8000 in
set_option maxHeartbeats 1000000 in
theorem rmine_other (x : BitVec 64) (s : Hn) (t n : Int) (HO : Hid (ofH x = s ∧ decide (isH x) = true)) (k1 : (s.t != t) = true) (w : World) : Calls Try.prog 15 #[.int .u64 (U x), .int .i64 t, .int .i64 n] w (Ret (.tuple #[hnV ⟨0, 0, 0⟩, .bool false]) w) := by
  go_enter Try.func15, Try.ntmps15
  go_wp2_with (go_at_call 9; refine (rhof_is x s true HO _).mono ?_; rintro e w' hr; obtain ⟨rfl, s1, rfl⟩ := hr.over; clear hr)
  have HE9 := Lib.hid (ext_alloc (.cells #[.int .i64 s.i, .int .i64 s.g, .int .i64 s.t] 23) (ext_set (p := ⟨w.heap.size, 2, none⟩) (.int .i64 0) (Nat.le_refl _) (ext_set (p := ⟨w.heap.size, 1, none⟩) (.int .i64 0) (Nat.le_refl _) (ext_set (p := ⟨w.heap.size, 0, none⟩) (.int .i64 0) (Nat.le_refl _) (ext_over s1 (ext_alloc (.cells #[.int .i64 0, .int .i64 0, .int .i64 0] 23) (ext_refl w)))))))
  have HR9 : Hid (Made w w.heap.size #[.int .i64 0, .int .i64 0, .int .i64 0] 23 (((((over (w.alloc (.cells #[.int .i64 0, .int .i64 0, .int .i64 0] 23)) s1).setCell ⟨w.heap.size, 0, none⟩ (.int .i64 0)).setCell ⟨w.heap.size, 1, none⟩ (.int .i64 0)).setCell ⟨w.heap.size, 2, none⟩ (.int .i64 0)).alloc (.cells #[.int .i64 s.i, .int .i64 s.g, .int .i64 s.t] 23))) := Lib.hid ((((((Made.mk #[.int .i64 0, .int .i64 0, .int .i64 0] 23 (ext_refl w)).over s1).set 0 (.int .i64 0)).set 1 (.int .i64 0)).set 2 (.int .i64 0)).alloc (.cells #[.int .i64 s.i, .int .i64 s.g, .int .i64 s.t] 23))
  generalize (((((over (w.alloc (.cells #[.int .i64 0, .int .i64 0, .int .i64 0] 23)) s1).setCell ⟨w.heap.size, 0, none⟩ (.int .i64 0)).setCell ⟨w.heap.size, 1, none⟩ (.int .i64 0)).setCell ⟨w.heap.size, 2, none⟩ (.int .i64 0)).alloc (.cells #[.int .i64 s.i, .int .i64 s.g, .int .i64 s.t] 23)) = Z9 at HE9 HR9 ⊢
  have z0 := cell_at (o := 0) HR9.out.1 rfl
  have z1 := cell_at (o := 1) HR9.out.1 rfl
  have z2 := cell_at (o := 2) HR9.out.1 rfl
  simp only [List.getElem_toArray, List.getElem_cons_zero, List.getElem_cons_succ] at z0 z1 z2
  exact bodyPost_ret (v := .tuple #[hnV ⟨0, 0, 0⟩, .bool false]) (by simp [results, Try.results15, go_sem, z0, z1, z2]) rfl (Ret.mk HE9.out)

set_option maxRecDepth 8000 in
set_option maxHeartbeats 1000000 in
theorem rmine_far (x : BitVec 64) (s : Hn) (t n : Int) (HO : Hid (ofH x = s ∧ decide (isH x) = true)) (k1 : (s.t != t) = false) (k2 : n ≤ s.i) (w : World) : Calls Try.prog 15 #[.int .u64 (U x), .int .i64 t, .int .i64 n] w (Ret (.tuple #[hnV ⟨0, 0, 0⟩, .bool false]) w) := by
  go_enter Try.func15, Try.ntmps15
  go_wp2_with (go_at_call 9; refine (rhof_is x s true HO _).mono ?_; rintro e w' hr; obtain ⟨rfl, s1, rfl⟩ := hr.over; clear hr)
  have HE9 := Lib.hid (ext_alloc (.cells #[.int .i64 s.i, .int .i64 s.g, .int .i64 s.t] 23) (ext_set (p := ⟨w.heap.size, 2, none⟩) (.int .i64 0) (Nat.le_refl _) (ext_set (p := ⟨w.heap.size, 1, none⟩) (.int .i64 0) (Nat.le_refl _) (ext_set (p := ⟨w.heap.size, 0, none⟩) (.int .i64 0) (Nat.le_refl _) (ext_over s1 (ext_alloc (.cells #[.int .i64 0, .int .i64 0, .int .i64 0] 23) (ext_refl w)))))))
  have HR9 : Hid (Made w w.heap.size #[.int .i64 0, .int .i64 0, .int .i64 0] 23 (((((over (w.alloc (.cells #[.int .i64 0, .int .i64 0, .int .i64 0] 23)) s1).setCell ⟨w.heap.size, 0, none⟩ (.int .i64 0)).setCell ⟨w.heap.size, 1, none⟩ (.int .i64 0)).setCell ⟨w.heap.size, 2, none⟩ (.int .i64 0)).alloc (.cells #[.int .i64 s.i, .int .i64 s.g, .int .i64 s.t] 23))) := Lib.hid ((((((Made.mk #[.int .i64 0, .int .i64 0, .int .i64 0] 23 (ext_refl w)).over s1).set 0 (.int .i64 0)).set 1 (.int .i64 0)).set 2 (.int .i64 0)).alloc (.cells #[.int .i64 s.i, .int .i64 s.g, .int .i64 s.t] 23))
  generalize (((((over (w.alloc (.cells #[.int .i64 0, .int .i64 0, .int .i64 0] 23)) s1).setCell ⟨w.heap.size, 0, none⟩ (.int .i64 0)).setCell ⟨w.heap.size, 1, none⟩ (.int .i64 0)).setCell ⟨w.heap.size, 2, none⟩ (.int .i64 0)).alloc (.cells #[.int .i64 s.i, .int .i64 s.g, .int .i64 s.t] 23)) = Z9 at HE9 HR9 ⊢
  have z0 := cell_at (o := 0) HR9.out.1 rfl
  have z1 := cell_at (o := 1) HR9.out.1 rfl
  have z2 := cell_at (o := 2) HR9.out.1 rfl
  simp only [List.getElem_toArray, List.getElem_cons_zero, List.getElem_cons_succ] at z0 z1 z2
  exact bodyPost_ret (v := .tuple #[hnV ⟨0, 0, 0⟩, .bool false]) (by simp [results, Try.results15, go_sem, z0, z1, z2]) rfl (Ret.mk HE9.out)

set_option maxRecDepth 8000 in
set_option maxHeartbeats 1000000 in
theorem rmine_yes (x : BitVec 64) (s : Hn) (t n : Int) (HO : Hid (ofH x = s ∧ decide (isH x) = true)) (k1 : (s.t != t) = false) (k2 : decide (n ≤ s.i) = false) (w : World) : Calls Try.prog 15 #[.int .u64 (U x), .int .i64 t, .int .i64 n] w (Ret (.tuple #[hnV s, .bool true]) w) := by
  go_enter Try.func15, Try.ntmps15
  go_wp2_with (go_at_call 9; refine (rhof_is x s true HO _).mono ?_; rintro e w' hr; obtain ⟨rfl, s1, rfl⟩ := hr.over; clear hr)
  have HE9 := Lib.hid (ext_alloc (.cells #[.int .i64 s.i, .int .i64 s.g, .int .i64 s.t] 23) (ext_set (p := ⟨w.heap.size, 2, none⟩) (.int .i64 s.t) (Nat.le_refl _) (ext_set (p := ⟨w.heap.size, 1, none⟩) (.int .i64 s.g) (Nat.le_refl _) (ext_set (p := ⟨w.heap.size, 0, none⟩) (.int .i64 s.i) (Nat.le_refl _) (ext_over s1 (ext_alloc (.cells #[.int .i64 0, .int .i64 0, .int .i64 0] 23) (ext_refl w)))))))
  have HR9 : Hid (Made w w.heap.size #[.int .i64 s.i, .int .i64 s.g, .int .i64 s.t] 23 (((((over (w.alloc (.cells #[.int .i64 0, .int .i64 0, .int .i64 0] 23)) s1).setCell ⟨w.heap.size, 0, none⟩ (.int .i64 s.i)).setCell ⟨w.heap.size, 1, none⟩ (.int .i64 s.g)).setCell ⟨w.heap.size, 2, none⟩ (.int .i64 s.t)).alloc (.cells #[.int .i64 s.i, .int .i64 s.g, .int .i64 s.t] 23))) := Lib.hid ((((((Made.mk #[.int .i64 0, .int .i64 0, .int .i64 0] 23 (ext_refl w)).over s1).set 0 (.int .i64 s.i)).set 1 (.int .i64 s.g)).set 2 (.int .i64 s.t)).alloc (.cells #[.int .i64 s.i, .int .i64 s.g, .int .i64 s.t] 23))
  generalize (((((over (w.alloc (.cells #[.int .i64 0, .int .i64 0, .int .i64 0] 23)) s1).setCell ⟨w.heap.size, 0, none⟩ (.int .i64 s.i)).setCell ⟨w.heap.size, 1, none⟩ (.int .i64 s.g)).setCell ⟨w.heap.size, 2, none⟩ (.int .i64 s.t)).alloc (.cells #[.int .i64 s.i, .int .i64 s.g, .int .i64 s.t] 23)) = Z9 at HE9 HR9 ⊢
  have z0 := cell_at (o := 0) HR9.out.1 rfl
  have z1 := cell_at (o := 1) HR9.out.1 rfl
  have z2 := cell_at (o := 2) HR9.out.1 rfl
  simp only [List.getElem_toArray, List.getElem_cons_zero, List.getElem_cons_succ] at z0 z1 z2
  exact bodyPost_ret (v := .tuple #[hnV s, .bool true]) (by simp [results, Try.results15, go_sem, z0, z1, z2]) rfl (Ret.mk HE9.out)

theorem rmine_any (x : BitVec 64) (t n : Int) (w : World) : Calls Try.prog 15 #[.int .u64 (U x), .int .i64 t, .int .i64 n] w (Ret (.tuple #[hnV (mineH x t n), .bool (decide (isMine x t n))]) w) := by
  by_cases h : isH x
  · have e := ofH_yes x h
    by_cases c1 : (hnN x).t = t
    · by_cases c2 : (hnN x).i < n
      · have hm : isMine x t n := ⟨h, c1, c2⟩
        rw [mineH_yes x t n hm, decide_eq_true hm]
        exact rmine_yes x _ t n (Lib.hid ⟨e, decide_eq_true h⟩) (bne_eq_false_iff_eq.2 c1) (decide_eq_false (by omega)) w
      · have hm : ¬ isMine x t n := fun k => c2 k.2.2
        rw [mineH_no x t n hm, decide_eq_false hm]
        exact rmine_far x _ t n (Lib.hid ⟨e, decide_eq_true h⟩) (bne_eq_false_iff_eq.2 c1) (by omega) w
    · have hm : ¬ isMine x t n := fun k => c1 k.2.1
      rw [mineH_no x t n hm, decide_eq_false hm]
      exact rmine_other x _ t n (Lib.hid ⟨e, decide_eq_true h⟩) (bne_iff_ne.2 c1) w
  · have hm : ¬ isMine x t n := fun k => h k.1
    rw [mineH_no x t n hm, decide_eq_false hm]
    exact rmine_none x _ t n (Lib.hid ⟨rfl, decide_eq_false h⟩) w

end Go.Proofs.Ytniejbncahmcoaa
