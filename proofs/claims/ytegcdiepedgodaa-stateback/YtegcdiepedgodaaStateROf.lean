/-
  The reference's Of. Conditions: those of each theorem.
-/
import Derived.Test.YtegcdiepedgodaaStateRef
namespace Go.Proofs.Ytegcdiepedgodaa
open Go Go.RowKit

theorem rword_is (s : St) (w : World) (r : Int) (h : Hid (U s.word = r)) : Calls Try.prog 13 #[stV s] w (Ret (.int .u64 r) w) := by
  rw [← h.out]
  exact rword_any s w

set_option maxRecDepth 8000 in
set_option maxHeartbeats 1000000 in
theorem rof_yes (X : Int) (h0 : 0 ≤ X) (h1 : X < 18446744073709551616) (s : St) (a1 : X % 1073741824 = s.g) (a2 : X / 1073741824 % 4 = s.m) (a3 : X / 4294967296 % 4 = s.k) (HO : Hid s.ok) (hw : Hid (U s.word = X)) (w : World) : Calls Try.prog 9 #[.int .u64 X] w (Ret (.tuple #[stV s, .bool true]) w) := by
  go_enter Try.func9, Try.ntmps9
  go_wp2_with (go_at_call 11; refine Hid.out ?_)
  rw [a1, a2, a3]
  have HX := Lib.hid (ext_alloc (.cells #[.int .i64 s.g, .int .i64 s.m, .int .i64 s.k] 23) (ext_alloc (.cells #[.int .i64 0, .int .i64 0, .int .i64 0] 23) (ext_refl w)))
  have HR := Lib.hid ((Made.mk #[.int .i64 0, .int .i64 0, .int .i64 0] 23 (ext_refl w)).alloc (.cells #[.int .i64 s.g, .int .i64 s.m, .int .i64 s.k] 23))
  have HQ : Hid (Made w (w.heap.size + 1) #[.int .i64 s.g, .int .i64 s.m, .int .i64 s.k] 23 ((w.alloc (.cells #[.int .i64 0, .int .i64 0, .int .i64 0] 23)).alloc (.cells #[.int .i64 s.g, .int .i64 s.m, .int .i64 s.k] 23))) := Lib.hid ⟨hp_at _ _ _ (by simp), Nat.le_succ _⟩
  generalize (w.alloc (.cells #[.int .i64 0, .int .i64 0, .int .i64 0] 23)).alloc (.cells #[.int .i64 s.g, .int .i64 s.m, .int .i64 s.k] 23) = Y at HX HR HQ ⊢
  have hne : w.heap.size ≠ w.heap.size + 1 := (by omega)
  generalize w.heap.size + 1 = bS at HQ hne ⊢
  generalize w.heap.size = bR at HR hne ⊢
  have hne2 := Ne.symm hne
  have lR := hp_lt HR.out.1
  have lS := hp_lt HQ.out.1
  have fR : ∀ o, Y.frozen? ⟨bR, o, none⟩ = false := fun _ => free_at HR.out.1
  have r0 := cell_at (o := 0) HR.out.1 rfl
  have r1 := cell_at (o := 1) HR.out.1 rfl
  have r2 := cell_at (o := 2) HR.out.1 rfl
  have q0 := cell_at (o := 0) HQ.out.1 rfl
  have q1 := cell_at (o := 1) HQ.out.1 rfl
  have q2 := cell_at (o := 2) HQ.out.1 rfl
  simp only [List.getElem_toArray, List.getElem_cons_zero, List.getElem_cons_succ] at r0 r1 r2 q0 q1 q2
  clear a1 a2 a3
  refine Lib.hid ?_
  refine (rsformed_any s _ true (hid_yes HO.out)).mono ?_
  rintro e w' hr
  obtain ⟨rfl, s1, rfl⟩ := hr.over
  clear hr
  go_wp2_with (go_at_call 13; refine (rword_is s _ X (hw)).mono ?_; rintro e w' hr; obtain ⟨rfl, s2, rfl⟩ := hr.over; clear hr)
  have HE9 := Lib.hid (ext_set (p := ⟨bR, 2, none⟩) (.int .i64 s.k) HR.out.2 (ext_set (p := ⟨bR, 1, none⟩) (.int .i64 s.m) HR.out.2 (ext_set (p := ⟨bR, 0, none⟩) (.int .i64 s.g) HR.out.2 (ext_over (s1.comp s2) HX.out))))
  have HR9 : Hid (Made w bR #[.int .i64 s.g, .int .i64 s.m, .int .i64 s.k] 23 ((((over Y (s1.comp s2)).setCell ⟨bR, 0, none⟩ (.int .i64 s.g)).setCell ⟨bR, 1, none⟩ (.int .i64 s.m)).setCell ⟨bR, 2, none⟩ (.int .i64 s.k))) := Lib.hid ((((HR.out.over (s1.comp s2)).set 0 (.int .i64 s.g)).set 1 (.int .i64 s.m)).set 2 (.int .i64 s.k))
  generalize ((((over Y (s1.comp s2)).setCell ⟨bR, 0, none⟩ (.int .i64 s.g)).setCell ⟨bR, 1, none⟩ (.int .i64 s.m)).setCell ⟨bR, 2, none⟩ (.int .i64 s.k)) = Z9 at HE9 HR9 ⊢
  have z0 := cell_at (o := 0) HR9.out.1 rfl
  have z1 := cell_at (o := 1) HR9.out.1 rfl
  have z2 := cell_at (o := 2) HR9.out.1 rfl
  simp only [List.getElem_toArray, List.getElem_cons_zero, List.getElem_cons_succ] at z0 z1 z2
  exact bodyPost_ret (v := .tuple #[stV s, .bool true]) (by simp [results, Try.results9, go_sem, z0, z1, z2]) rfl (Ret.mk HE9.out)

set_option maxRecDepth 8000 in
set_option maxHeartbeats 1000000 in
theorem rof_odd (X : Int) (h0 : 0 ≤ X) (h1 : X < 18446744073709551616) (s : St) (a1 : X % 1073741824 = s.g) (a2 : X / 1073741824 % 4 = s.m) (a3 : X / 4294967296 % 4 = s.k) (HO : Hid s.ok) (y : Int) (hw : Hid (U s.word = y)) (hy : (y != X) = true) (w : World) : Calls Try.prog 9 #[.int .u64 X] w (Ret (.tuple #[stV ⟨0, 0, 0⟩, .bool false]) w) := by
  go_enter Try.func9, Try.ntmps9
  go_wp2_with (go_at_call 11; refine Hid.out ?_)
  rw [a1, a2, a3]
  have HX := Lib.hid (ext_alloc (.cells #[.int .i64 s.g, .int .i64 s.m, .int .i64 s.k] 23) (ext_alloc (.cells #[.int .i64 0, .int .i64 0, .int .i64 0] 23) (ext_refl w)))
  have HR := Lib.hid ((Made.mk #[.int .i64 0, .int .i64 0, .int .i64 0] 23 (ext_refl w)).alloc (.cells #[.int .i64 s.g, .int .i64 s.m, .int .i64 s.k] 23))
  have HQ : Hid (Made w (w.heap.size + 1) #[.int .i64 s.g, .int .i64 s.m, .int .i64 s.k] 23 ((w.alloc (.cells #[.int .i64 0, .int .i64 0, .int .i64 0] 23)).alloc (.cells #[.int .i64 s.g, .int .i64 s.m, .int .i64 s.k] 23))) := Lib.hid ⟨hp_at _ _ _ (by simp), Nat.le_succ _⟩
  generalize (w.alloc (.cells #[.int .i64 0, .int .i64 0, .int .i64 0] 23)).alloc (.cells #[.int .i64 s.g, .int .i64 s.m, .int .i64 s.k] 23) = Y at HX HR HQ ⊢
  have hne : w.heap.size ≠ w.heap.size + 1 := (by omega)
  generalize w.heap.size + 1 = bS at HQ hne ⊢
  generalize w.heap.size = bR at HR hne ⊢
  have hne2 := Ne.symm hne
  have lR := hp_lt HR.out.1
  have lS := hp_lt HQ.out.1
  have fR : ∀ o, Y.frozen? ⟨bR, o, none⟩ = false := fun _ => free_at HR.out.1
  have r0 := cell_at (o := 0) HR.out.1 rfl
  have r1 := cell_at (o := 1) HR.out.1 rfl
  have r2 := cell_at (o := 2) HR.out.1 rfl
  have q0 := cell_at (o := 0) HQ.out.1 rfl
  have q1 := cell_at (o := 1) HQ.out.1 rfl
  have q2 := cell_at (o := 2) HQ.out.1 rfl
  simp only [List.getElem_toArray, List.getElem_cons_zero, List.getElem_cons_succ] at r0 r1 r2 q0 q1 q2
  clear a1 a2 a3
  refine Lib.hid ?_
  refine (rsformed_any s _ true (hid_yes HO.out)).mono ?_
  rintro e w' hr
  obtain ⟨rfl, s1, rfl⟩ := hr.over
  clear hr
  go_wp2_with (go_at_call 13; refine (rword_is s _ y (hw)).mono ?_; rintro e w' hr; obtain ⟨rfl, s2, rfl⟩ := hr.over; clear hr)
  have HE9 := Lib.hid (ext_set (p := ⟨bR, 2, none⟩) (.int .i64 0) HR.out.2 (ext_set (p := ⟨bR, 1, none⟩) (.int .i64 0) HR.out.2 (ext_set (p := ⟨bR, 0, none⟩) (.int .i64 0) HR.out.2 (ext_over (s1.comp s2) HX.out))))
  have HR9 : Hid (Made w bR #[.int .i64 0, .int .i64 0, .int .i64 0] 23 ((((over Y (s1.comp s2)).setCell ⟨bR, 0, none⟩ (.int .i64 0)).setCell ⟨bR, 1, none⟩ (.int .i64 0)).setCell ⟨bR, 2, none⟩ (.int .i64 0))) := Lib.hid ((((HR.out.over (s1.comp s2)).set 0 (.int .i64 0)).set 1 (.int .i64 0)).set 2 (.int .i64 0))
  generalize ((((over Y (s1.comp s2)).setCell ⟨bR, 0, none⟩ (.int .i64 0)).setCell ⟨bR, 1, none⟩ (.int .i64 0)).setCell ⟨bR, 2, none⟩ (.int .i64 0)) = Z9 at HE9 HR9 ⊢
  have z0 := cell_at (o := 0) HR9.out.1 rfl
  have z1 := cell_at (o := 1) HR9.out.1 rfl
  have z2 := cell_at (o := 2) HR9.out.1 rfl
  simp only [List.getElem_toArray, List.getElem_cons_zero, List.getElem_cons_succ] at z0 z1 z2
  exact bodyPost_ret (v := .tuple #[stV ⟨0, 0, 0⟩, .bool false]) (by simp [results, Try.results9, go_sem, z0, z1, z2]) rfl (Ret.mk HE9.out)

set_option maxRecDepth 8000 in
set_option maxHeartbeats 1000000 in
theorem rof_none (X : Int) (h0 : 0 ≤ X) (h1 : X < 18446744073709551616) (s : St) (a1 : X % 1073741824 = s.g) (a2 : X / 1073741824 % 4 = s.m) (a3 : X / 4294967296 % 4 = s.k) (HO : Hid (¬ s.ok)) (w : World) : Calls Try.prog 9 #[.int .u64 X] w (Ret (.tuple #[stV ⟨0, 0, 0⟩, .bool false]) w) := by
  go_enter Try.func9, Try.ntmps9
  go_wp2_with (go_at_call 11; refine Hid.out ?_)
  rw [a1, a2, a3]
  have HX := Lib.hid (ext_alloc (.cells #[.int .i64 s.g, .int .i64 s.m, .int .i64 s.k] 23) (ext_alloc (.cells #[.int .i64 0, .int .i64 0, .int .i64 0] 23) (ext_refl w)))
  have HR := Lib.hid ((Made.mk #[.int .i64 0, .int .i64 0, .int .i64 0] 23 (ext_refl w)).alloc (.cells #[.int .i64 s.g, .int .i64 s.m, .int .i64 s.k] 23))
  have HQ : Hid (Made w (w.heap.size + 1) #[.int .i64 s.g, .int .i64 s.m, .int .i64 s.k] 23 ((w.alloc (.cells #[.int .i64 0, .int .i64 0, .int .i64 0] 23)).alloc (.cells #[.int .i64 s.g, .int .i64 s.m, .int .i64 s.k] 23))) := Lib.hid ⟨hp_at _ _ _ (by simp), Nat.le_succ _⟩
  generalize (w.alloc (.cells #[.int .i64 0, .int .i64 0, .int .i64 0] 23)).alloc (.cells #[.int .i64 s.g, .int .i64 s.m, .int .i64 s.k] 23) = Y at HX HR HQ ⊢
  have hne : w.heap.size ≠ w.heap.size + 1 := (by omega)
  generalize w.heap.size + 1 = bS at HQ hne ⊢
  generalize w.heap.size = bR at HR hne ⊢
  have hne2 := Ne.symm hne
  have lR := hp_lt HR.out.1
  have lS := hp_lt HQ.out.1
  have fR : ∀ o, Y.frozen? ⟨bR, o, none⟩ = false := fun _ => free_at HR.out.1
  have r0 := cell_at (o := 0) HR.out.1 rfl
  have r1 := cell_at (o := 1) HR.out.1 rfl
  have r2 := cell_at (o := 2) HR.out.1 rfl
  have q0 := cell_at (o := 0) HQ.out.1 rfl
  have q1 := cell_at (o := 1) HQ.out.1 rfl
  have q2 := cell_at (o := 2) HQ.out.1 rfl
  simp only [List.getElem_toArray, List.getElem_cons_zero, List.getElem_cons_succ] at r0 r1 r2 q0 q1 q2
  clear a1 a2 a3
  refine Lib.hid ?_
  refine (rsformed_any s _ false (hid_no HO.out)).mono ?_
  rintro e w' hr
  obtain ⟨rfl, s1, rfl⟩ := hr.over
  clear hr
  go_wp2
  have HE9 := Lib.hid (ext_set (p := ⟨bR, 2, none⟩) (.int .i64 0) HR.out.2 (ext_set (p := ⟨bR, 1, none⟩) (.int .i64 0) HR.out.2 (ext_set (p := ⟨bR, 0, none⟩) (.int .i64 0) HR.out.2 (ext_over s1 HX.out))))
  have HR9 : Hid (Made w bR #[.int .i64 0, .int .i64 0, .int .i64 0] 23 ((((over Y s1).setCell ⟨bR, 0, none⟩ (.int .i64 0)).setCell ⟨bR, 1, none⟩ (.int .i64 0)).setCell ⟨bR, 2, none⟩ (.int .i64 0))) := Lib.hid ((((HR.out.over s1).set 0 (.int .i64 0)).set 1 (.int .i64 0)).set 2 (.int .i64 0))
  generalize ((((over Y s1).setCell ⟨bR, 0, none⟩ (.int .i64 0)).setCell ⟨bR, 1, none⟩ (.int .i64 0)).setCell ⟨bR, 2, none⟩ (.int .i64 0)) = Z9 at HE9 HR9 ⊢
  have z0 := cell_at (o := 0) HR9.out.1 rfl
  have z1 := cell_at (o := 1) HR9.out.1 rfl
  have z2 := cell_at (o := 2) HR9.out.1 rfl
  simp only [List.getElem_toArray, List.getElem_cons_zero, List.getElem_cons_succ] at z0 z1 z2
  exact bodyPost_ret (v := .tuple #[stV ⟨0, 0, 0⟩, .bool false]) (by simp [results, Try.results9, go_sem, z0, z1, z2]) rfl (Ret.mk HE9.out)

theorem rof_any (x : BitVec 64) (w : World) : Calls Try.prog 9 #[.int .u64 (U x)] w (Ret (.tuple #[stV (ofS x), .bool (decide (isW x))]) w) := by
  have h0 := U_nonneg x
  have h1 := U_lt x
  by_cases h : isW x
  · rw [ofS_yes x h, decide_eq_true h]
    have h2 := (isW_num x).1 h
    exact rof_yes (U x) h0 h1 (stN x) rfl rfl rfl (Lib.hid h2.1) (Lib.hid ((U_word _ h2.1).trans h2.2)) w
  · rw [ofS_no x h, decide_eq_false h]
    by_cases k : (stN x).ok
    · have hne : U (stN x).word ≠ U x := fun e => h ((isW_num x).2 ⟨k, (U_word _ k).symm.trans e⟩)
      exact rof_odd (U x) h0 h1 (stN x) rfl rfl rfl (Lib.hid k) _ (Lib.hid rfl) (bne_iff_ne.2 hne) w
    · exact rof_none (U x) h0 h1 (stN x) rfl rfl rfl (Lib.hid k) w

end Go.Proofs.Ytegcdiepedgodaa
